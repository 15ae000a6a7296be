/- Where capabilities stand: contract. -/
import Derived.Test.YtgfkjlknkbdjiaaSo5
namespace Go.Proofs.Ytgfkjlknkbdjiaa
set_option linter.unusedVariables false
set_option linter.unusedSimpArgs false
open Go.Joins Go.ChangeShapes Go.WideShapes Go.ChangeAt Go.RowKit Go.Deep

/-- a page's granules with a tag, of the first k -/
def tagL (mks : List Nat) (p k : Nat) : List Nat := ((List.range k).filter fun i => decide (8 * p + i ∈ mks)).map fun i => 8 * p + i
theorem tagL_succ (mks : List Nat) (p k : Nat) : tagL mks p (k + 1) = tagL mks p k ++ if 8 * p + k ∈ mks then [8 * p + k] else [] := by
  unfold tagL
  rw [List.range_succ, List.filter_append, List.map_append]
  congr 1
  by_cases h : 8 * p + k ∈ mks
  · simp [h]
  · simp [h]
theorem tagL_len (mks : List Nat) (p k : Nat) : (tagL mks p k).length ≤ k := by
  unfold tagL
  rw [List.length_map]
  exact Nat.le_trans (List.length_filter_le _ _) (by simp)
theorem mem_tagL {mks : List Nat} {p k x : Nat} : x ∈ tagL mks p k ↔ x ∈ mks ∧ 8 * p ≤ x ∧ x < 8 * p + k := by
  unfold tagL
  simp only [List.mem_map, List.mem_filter, List.mem_range, decide_eq_true_eq]
  constructor
  · rintro ⟨i, ⟨h1, h2⟩, rfl⟩
    exact ⟨h2, by omega, by omega⟩
  · rintro ⟨h1, h2, h3⟩
    exact ⟨x - 8 * p, ⟨by omega, by rwa [show 8 * p + (x - 8 * p) = x by omega]⟩, by omega⟩
def tagsTo (mks pgs : List Nat) (j : Nat) : List Nat := (pgs.take j).flatMap fun p => tagL mks p 8
theorem tagsTo_succ (mks pgs : List Nat) (j : Nat) (h : j < pgs.length) : tagsTo mks pgs (j + 1) = tagsTo mks pgs j ++ tagL mks pgs[j] 8 := by
  unfold tagsTo
  rw [List.take_succ_eq_append_getElem h, List.flatMap_append]
  simp
theorem tagsTo_len (mks pgs : List Nat) (j : Nat) : (tagsTo mks pgs j).length ≤ 8 * j := by
  induction j with
  | zero => simp [tagsTo]
  | succ j ih =>
    by_cases h : j < pgs.length
    · rw [tagsTo_succ _ _ _ h, List.length_append]
      have := tagL_len mks pgs[j] 8
      omega
    · have : tagsTo mks pgs (j + 1) = tagsTo mks pgs j := by
        unfold tagsTo
        rw [List.take_of_length_le (by omega), List.take_of_length_le (by omega)]
      rw [this]
      omega
theorem rise_tagL (mks : List Nat) (p k : Nat) : Rise (tagL mks p k) := by
  unfold tagL
  refine List.pairwise_map.2 (List.Pairwise.filter _ ?_)
  exact List.Pairwise.imp (fun h => by omega) List.pairwise_lt_range
theorem rise_tags (mks : List Nat) : ∀ (l : List Nat), Rise l → Rise (l.flatMap fun p => tagL mks p 8) := by
  intro l
  induction l with
  | nil => intro _; exact List.Pairwise.nil
  | cons p r ih =>
    intro h
    have hp := List.pairwise_cons.1 h
    rw [List.flatMap_cons]
    refine List.pairwise_append.2 ⟨rise_tagL _ _ _, ih hp.2, fun x hx y hy => ?_⟩
    obtain ⟨q, hq, hy⟩ := List.mem_flatMap.1 hy
    have h1 := mem_tagL.1 hx
    have h2 := mem_tagL.1 hy
    have h3 := hp.1 q hq
    omega
theorem tags_all {m : Mm} (h : Okm m) : tagsTo m.mks m.pgs m.pgs.length = m.mks := by
  unfold tagsTo
  rw [List.take_length]
  refine rise_ext (rise_tags _ _ h.pr) h.mr fun x => ?_
  rw [List.mem_flatMap]
  constructor
  · rintro ⟨p, _, hx⟩
    exact (mem_tagL.1 hx).1
  · intro hx
    exact ⟨x / 8, h.ml x hx, mem_tagL.2 ⟨hx, by omega, by omega⟩⟩
set_option maxRecDepth 100000 in
set_option maxHeartbeats 4000000 in
theorem tags_any (W : World) (M B : Nat) (D : DataW Unit) (pb : Nat → Nat) (F : Nat → Prop) (m : Mm) (h : MemO W M B D pb F m) :
    Calls Try.prog 15 #[.pointer (some ⟨M, 0, none⟩)] W fun e W' => ∃ (a : Option Addr) (c : Nat), e = .returned (.slice a m.mks.length c) ∧ W'.ownsRow W.heap.size 39 1 (.slice a m.mks.length c) m.mks.length (u64s (m.mks.map (32 * ·))) ∧ Below W.heap.size W W' := by
  have HP := Lib.hid (pages_any W M B D pb F m h)
  have HM := Lib.hid (fun W' (hb : Below W.heap.size W W') => h.below hb)
  have HOK := Lib.hid h.ok
  have HTA := Lib.hid (tags_all h.ok)
  have hl := h.ok.len
  have hbd := h.ok.bud
  obtain ⟨n, hn⟩ : ∃ n, m.pgs.length = n := ⟨_, rfl⟩
  rw [hn] at HP hl HTA
  have HN := Lib.hid hn
  clear h hn
  go_enter Try.func15, Try.ntmps15
  go_wp2_with fail
  refine HP.out.mono ?_
  rintro e W1 ⟨a, c, rfl, ho, hb1⟩
  have HRD := Lib.hid (by have := own_rd ho; rwa [Nat.mul_one] at this : Rd W1 a n (u64s m.pgs))
  have HB1 := Lib.hid hb1
  clear ho hb1 HP
  go_wp2_with fail
  go_loopw [3, 11] (fun v3 v11 wr => ∃ (j : Nat) (v : Value), v3 = v ∧ v11 = .int .i64 j ∧ j ≤ n ∧ Hid (wr.ownsRow W1.heap.size 39 1 v (tagsTo m.mks m.pgs j).length (u64s ((tagsTo m.mks m.pgs j).map (32 * ·)))) ∧ Hid (Below W1.heap.size W1 wr)) (fun _ i _ => n - (intOf i).toNat)
  case atStart => exact ⟨0, _, rfl, rfl, by omega, Lib.hid (World.ownsRow_nil _ _ _ _), Lib.hid (Below.refl _ _)⟩
  case round =>
    obtain ⟨j, v, rfl, rfl, hj, HO, HB⟩ := hrel
    by_cases hlt : j < n
    · have hltz : (j : Int) < (n : Int) := by omega
      have j0 : (0 : Int) ≤ (j : Int) := by omega
      have hjl : j < m.pgs.length := by rw [HN.out]; exact hlt
      have hin : m.pgs[j] ∈ m.pgs := List.getElem_mem hjl
      obtain ⟨b1, o1, e1, hb1, d0⟩ := (HRD.out.below HB.out).at_ hlt
      subst e1
      rw [u64s_get m.pgs j hjl] at d0
      have hpl := HOK.out.pl _ hin
      have hsucc := tagsTo_succ m.mks m.pgs j hjl
      have hlen := tagsTo_len m.mks m.pgs j
      obtain ⟨p, hp⟩ : ∃ p, m.pgs[j] = p := ⟨_, rfl⟩
      rw [hp] at d0 hpl hin hsucc
      have hMr := HM.out wr (HB1.out.trans (HB.out.mono HB1.out.size))
      have HPO := Lib.hid (pageOf_any wr M B D pb F m hMr (256 * p) (by omega))
      rw [show 256 * p / 256 = p by omega, show pgP pb m p = some ⟨pb p, 0, none⟩ by unfold pgP; rw [if_pos hin], show ((256 * p : Nat) : Int) = (p : Int) * 256 by omega] at HPO
      have hbx := hMr.pg p hin
      have f0 : wr.cell? ⟨pb p, 256, none⟩ = some (.bool (decide (8 * p + 0 ∈ m.mks))) := by rw [hbx.cell, List.getElem?_toArray]; exact pageC_tag m p 0 (by decide)
      obtain ⟨b0, hb0⟩ : ∃ b, decide (8 * p + 0 ∈ m.mks) = b := ⟨_, rfl⟩
      rw [hb0] at f0
      have HB0 := Lib.hid hb0
      clear hb0
      have f1 : wr.cell? ⟨pb p, 257, none⟩ = some (.bool (decide (8 * p + 1 ∈ m.mks))) := by rw [hbx.cell, List.getElem?_toArray]; exact pageC_tag m p 1 (by decide)
      obtain ⟨b1, hb1⟩ : ∃ b, decide (8 * p + 1 ∈ m.mks) = b := ⟨_, rfl⟩
      rw [hb1] at f1
      have HB1 := Lib.hid hb1
      clear hb1
      have f2 : wr.cell? ⟨pb p, 258, none⟩ = some (.bool (decide (8 * p + 2 ∈ m.mks))) := by rw [hbx.cell, List.getElem?_toArray]; exact pageC_tag m p 2 (by decide)
      obtain ⟨b2, hb2⟩ : ∃ b, decide (8 * p + 2 ∈ m.mks) = b := ⟨_, rfl⟩
      rw [hb2] at f2
      have HB2 := Lib.hid hb2
      clear hb2
      have f3 : wr.cell? ⟨pb p, 259, none⟩ = some (.bool (decide (8 * p + 3 ∈ m.mks))) := by rw [hbx.cell, List.getElem?_toArray]; exact pageC_tag m p 3 (by decide)
      obtain ⟨b3, hb3⟩ : ∃ b, decide (8 * p + 3 ∈ m.mks) = b := ⟨_, rfl⟩
      rw [hb3] at f3
      have HB3 := Lib.hid hb3
      clear hb3
      have f4 : wr.cell? ⟨pb p, 260, none⟩ = some (.bool (decide (8 * p + 4 ∈ m.mks))) := by rw [hbx.cell, List.getElem?_toArray]; exact pageC_tag m p 4 (by decide)
      obtain ⟨b4, hb4⟩ : ∃ b, decide (8 * p + 4 ∈ m.mks) = b := ⟨_, rfl⟩
      rw [hb4] at f4
      have HB4 := Lib.hid hb4
      clear hb4
      have f5 : wr.cell? ⟨pb p, 261, none⟩ = some (.bool (decide (8 * p + 5 ∈ m.mks))) := by rw [hbx.cell, List.getElem?_toArray]; exact pageC_tag m p 5 (by decide)
      obtain ⟨b5, hb5⟩ : ∃ b, decide (8 * p + 5 ∈ m.mks) = b := ⟨_, rfl⟩
      rw [hb5] at f5
      have HB5 := Lib.hid hb5
      clear hb5
      have f6 : wr.cell? ⟨pb p, 262, none⟩ = some (.bool (decide (8 * p + 6 ∈ m.mks))) := by rw [hbx.cell, List.getElem?_toArray]; exact pageC_tag m p 6 (by decide)
      obtain ⟨b6, hb6⟩ : ∃ b, decide (8 * p + 6 ∈ m.mks) = b := ⟨_, rfl⟩
      rw [hb6] at f6
      have HB6 := Lib.hid hb6
      clear hb6
      have f7 : wr.cell? ⟨pb p, 263, none⟩ = some (.bool (decide (8 * p + 7 ∈ m.mks))) := by rw [hbx.cell, List.getElem?_toArray]; exact pageC_tag m p 7 (by decide)
      obtain ⟨b7, hb7⟩ : ∃ b, decide (8 * p + 7 ∈ m.mks) = b := ⟨_, rfl⟩
      rw [hb7] at f7
      have HB7 := Lib.hid hb7
      clear hb7
      have HSU := Lib.hid hsucc
      obtain ⟨q, hq⟩ : ∃ q, pb p = q := ⟨_, rfl⟩
      rw [hq] at HPO
      rw [hq] at f0 f1 f2 f3 f4 f5 f6 f7
      have w1 : IntKind.u64.wrap ((p : Int) * 256) = (p : Int) * 256 := by rw [IntKind.wrap_u64]; omega
      have hL8 : tagL m.mks p 0 = [] := rfl
      clear hp hsucc hin hMr hbx hq hb1
      go_wp2_with fail
      refine HPO.out.mono ?_
      rintro e W2 ⟨rfl, rfl⟩
      go_wp2_with fail
      go_loopw [3, 22] (fun v3 v22 wx => ∃ (i : Nat) (v : Value), v3 = v ∧ v22 = .int .i64 i ∧ i ≤ 8 ∧ Hid (wx.ownsRow W1.heap.size 39 1 v (tagsTo m.mks m.pgs j ++ tagL m.mks p i).length (u64s ((tagsTo m.mks m.pgs j ++ tagL m.mks p i).map (32 * ·)))) ∧ Hid (Below W1.heap.size W1 wx)) (fun _ i _ => 8 - (intOf i).toNat)
      case atStart => exact ⟨0, _, rfl, rfl, by omega, by rw [hL8, List.append_nil]; exact HO, HB⟩
      case round =>
        clear HO HB d0 f0 f1 f2 f3 f4 f5 f6 f7 HPO
        obtain ⟨i, v2, rfl, rfl, hi8, HO, HB⟩ := hrel
        have hsz := HB.out.size
        obtain ⟨va, vc, rfl, -⟩ := own_slice HO.out
        have hll : (tagsTo m.mks m.pgs j ++ tagL m.mks p i).length ≤ 8 * j + i := by
          rw [List.length_append]
          have := tagL_len m.mks p i
          omega
        have hts := tagL_succ m.mks p i
        obtain ⟨ln, hln⟩ : ∃ ln, (tagsTo m.mks m.pgs j ++ tagL m.mks p i).length = ln := ⟨_, rfl⟩
        rw [hln] at HO hll ⊢
        have HLN := Lib.hid hln
        clear hln
        by_cases hi : i < 8
        · rcases (show i = 0 ∨ i = 1 ∨ i = 2 ∨ i = 3 ∨ i = 4 ∨ i = 5 ∨ i = 6 ∨ i = 7 by omega) with rfl | rfl | rfl | rfl | rfl | rfl | rfl | rfl
          · have ix : ∀ w, (Instr.index 74 (.agg #[.bool b0, .bool b1, .bool b2, .bool b3, .bool b4, .bool b5, .bool b6, .bool b7]) (.int .i64 0)).run Try.prog w = .ok (.bool b0) w := fun _ => by kernel_rfl
            cases b0
            · have ht : tagL m.mks p 1 = tagL m.mks p 0 := by rw [hts, if_neg (of_decide_eq_false HB0.out), List.append_nil]
              have HT := Lib.hid ht
              clear ht hts hll
              go_wp2_with fail
              go_roundw
              case rel => exact ⟨1, _, rfl, rfl, by omega, by rw [HT.out, HLN.out]; exact HO, HB⟩
              case measure => simp [intOf]
            · have ht : tagL m.mks p 1 = tagL m.mks p 0 ++ [8 * p + 0] := by rw [hts, if_pos (of_decide_eq_true HB0.out)]
              have HT := Lib.hid ht
              clear ht hts
              have wv : IntKind.u64.wrap ((p : Int) * 256) = (p : Int) * 256 := by rw [IntKind.wrap_u64]; omega
              go_wp2_with (at_builtin; refine wpList_appE 32 39 (.int .u64 0) 1 8 Try.underlying32 infoU64 rfl (by decide) (by decide) _ rfl _ _ rfl W1.heap.size (.slice va ln vc) ln (u64s ((tagsTo m.mks m.pgs j ++ tagL m.mks p 0).map (32 * ·))) rfl (HO.out.alloc _) (some ⟨wr.heap.size, 0, none⟩) 1 1 [.int .u64 ((p : Int) * 256)] rfl (Rd.lit wr #[.int .u64 ((p : Int) * 256)] 39 (by show 1 ≤ maxLen; decide)) (fun u hu => by simp at hu; subst hu; rfl) (by omega) (by rw [size_alloc]; exact Nat.le_succ_of_le hsz) ?_; intro a3 c3 W3 hown3 hgrow3 hat3)
              have HO3 : Hid (W3.ownsRow W1.heap.size 39 1 (.slice a3 (ln + 1) c3) (tagsTo m.mks m.pgs j ++ tagL m.mks p 1).length (u64s ((tagsTo m.mks m.pgs j ++ tagL m.mks p 1).map (32 * ·)))) := Lib.hid (by
                rw [HT.out, ← List.append_assoc, List.length_append, HLN.out, List.map_append, show u64s (List.map (32 * ·) (tagsTo m.mks m.pgs j ++ tagL m.mks p 0) ++ List.map (32 * ·) [8 * p + 0]) = u64s (List.map (32 * ·) (tagsTo m.mks m.pgs j ++ tagL m.mks p 0)) ++ [.int .u64 ((p : Int) * 256)] by rw [List.map_cons, List.map_nil, u64s_snoc, show ((32 * (8 * p + 0) : Nat) : Int) = (p : Int) * 256 by omega]]
                exact hown3)
              have HB3 := Lib.hid (grownB (bTrans HB.out (bAlloc (Below.refl _ _) (.cells #[.int .u64 ((p : Int) * 256)] 39))) hgrow3 (fun r e => (HO.out.lt r e).1))
              clear hown3 hgrow3 hat3 HO HB
              go_wp2_with fail
              go_roundw
              case rel => exact ⟨1, _, rfl, rfl, by omega, HO3, HB3⟩
              case measure => simp [intOf]
          · have ix : ∀ w, (Instr.index 74 (.agg #[.bool b0, .bool b1, .bool b2, .bool b3, .bool b4, .bool b5, .bool b6, .bool b7]) (.int .i64 1)).run Try.prog w = .ok (.bool b1) w := fun _ => by kernel_rfl
            cases b1
            · have ht : tagL m.mks p 2 = tagL m.mks p 1 := by rw [hts, if_neg (of_decide_eq_false HB1.out), List.append_nil]
              have HT := Lib.hid ht
              clear ht hts hll
              go_wp2_with fail
              go_roundw
              case rel => exact ⟨2, _, rfl, rfl, by omega, by rw [HT.out, HLN.out]; exact HO, HB⟩
              case measure => simp [intOf]
            · have ht : tagL m.mks p 2 = tagL m.mks p 1 ++ [8 * p + 1] := by rw [hts, if_pos (of_decide_eq_true HB1.out)]
              have HT := Lib.hid ht
              clear ht hts
              have wv : IntKind.u64.wrap ((p : Int) * 256 + 32) = (p : Int) * 256 + 32 := by rw [IntKind.wrap_u64]; omega
              go_wp2_with (at_builtin; refine wpList_appE 32 39 (.int .u64 0) 1 8 Try.underlying32 infoU64 rfl (by decide) (by decide) _ rfl _ _ rfl W1.heap.size (.slice va ln vc) ln (u64s ((tagsTo m.mks m.pgs j ++ tagL m.mks p 1).map (32 * ·))) rfl (HO.out.alloc _) (some ⟨wr.heap.size, 0, none⟩) 1 1 [.int .u64 ((p : Int) * 256 + 32)] rfl (Rd.lit wr #[.int .u64 ((p : Int) * 256 + 32)] 39 (by show 1 ≤ maxLen; decide)) (fun u hu => by simp at hu; subst hu; rfl) (by omega) (by rw [size_alloc]; exact Nat.le_succ_of_le hsz) ?_; intro a3 c3 W3 hown3 hgrow3 hat3)
              have HO3 : Hid (W3.ownsRow W1.heap.size 39 1 (.slice a3 (ln + 1) c3) (tagsTo m.mks m.pgs j ++ tagL m.mks p 2).length (u64s ((tagsTo m.mks m.pgs j ++ tagL m.mks p 2).map (32 * ·)))) := Lib.hid (by
                rw [HT.out, ← List.append_assoc, List.length_append, HLN.out, List.map_append, show u64s (List.map (32 * ·) (tagsTo m.mks m.pgs j ++ tagL m.mks p 1) ++ List.map (32 * ·) [8 * p + 1]) = u64s (List.map (32 * ·) (tagsTo m.mks m.pgs j ++ tagL m.mks p 1)) ++ [.int .u64 ((p : Int) * 256 + 32)] by rw [List.map_cons, List.map_nil, u64s_snoc, show ((32 * (8 * p + 1) : Nat) : Int) = (p : Int) * 256 + 32 by omega]]
                exact hown3)
              have HB3 := Lib.hid (grownB (bTrans HB.out (bAlloc (Below.refl _ _) (.cells #[.int .u64 ((p : Int) * 256 + 32)] 39))) hgrow3 (fun r e => (HO.out.lt r e).1))
              clear hown3 hgrow3 hat3 HO HB
              go_wp2_with fail
              go_roundw
              case rel => exact ⟨2, _, rfl, rfl, by omega, HO3, HB3⟩
              case measure => simp [intOf]
          · have ix : ∀ w, (Instr.index 74 (.agg #[.bool b0, .bool b1, .bool b2, .bool b3, .bool b4, .bool b5, .bool b6, .bool b7]) (.int .i64 2)).run Try.prog w = .ok (.bool b2) w := fun _ => by kernel_rfl
            cases b2
            · have ht : tagL m.mks p 3 = tagL m.mks p 2 := by rw [hts, if_neg (of_decide_eq_false HB2.out), List.append_nil]
              have HT := Lib.hid ht
              clear ht hts hll
              go_wp2_with fail
              go_roundw
              case rel => exact ⟨3, _, rfl, rfl, by omega, by rw [HT.out, HLN.out]; exact HO, HB⟩
              case measure => simp [intOf]
            · have ht : tagL m.mks p 3 = tagL m.mks p 2 ++ [8 * p + 2] := by rw [hts, if_pos (of_decide_eq_true HB2.out)]
              have HT := Lib.hid ht
              clear ht hts
              have wv : IntKind.u64.wrap ((p : Int) * 256 + 64) = (p : Int) * 256 + 64 := by rw [IntKind.wrap_u64]; omega
              go_wp2_with (at_builtin; refine wpList_appE 32 39 (.int .u64 0) 1 8 Try.underlying32 infoU64 rfl (by decide) (by decide) _ rfl _ _ rfl W1.heap.size (.slice va ln vc) ln (u64s ((tagsTo m.mks m.pgs j ++ tagL m.mks p 2).map (32 * ·))) rfl (HO.out.alloc _) (some ⟨wr.heap.size, 0, none⟩) 1 1 [.int .u64 ((p : Int) * 256 + 64)] rfl (Rd.lit wr #[.int .u64 ((p : Int) * 256 + 64)] 39 (by show 1 ≤ maxLen; decide)) (fun u hu => by simp at hu; subst hu; rfl) (by omega) (by rw [size_alloc]; exact Nat.le_succ_of_le hsz) ?_; intro a3 c3 W3 hown3 hgrow3 hat3)
              have HO3 : Hid (W3.ownsRow W1.heap.size 39 1 (.slice a3 (ln + 1) c3) (tagsTo m.mks m.pgs j ++ tagL m.mks p 3).length (u64s ((tagsTo m.mks m.pgs j ++ tagL m.mks p 3).map (32 * ·)))) := Lib.hid (by
                rw [HT.out, ← List.append_assoc, List.length_append, HLN.out, List.map_append, show u64s (List.map (32 * ·) (tagsTo m.mks m.pgs j ++ tagL m.mks p 2) ++ List.map (32 * ·) [8 * p + 2]) = u64s (List.map (32 * ·) (tagsTo m.mks m.pgs j ++ tagL m.mks p 2)) ++ [.int .u64 ((p : Int) * 256 + 64)] by rw [List.map_cons, List.map_nil, u64s_snoc, show ((32 * (8 * p + 2) : Nat) : Int) = (p : Int) * 256 + 64 by omega]]
                exact hown3)
              have HB3 := Lib.hid (grownB (bTrans HB.out (bAlloc (Below.refl _ _) (.cells #[.int .u64 ((p : Int) * 256 + 64)] 39))) hgrow3 (fun r e => (HO.out.lt r e).1))
              clear hown3 hgrow3 hat3 HO HB
              go_wp2_with fail
              go_roundw
              case rel => exact ⟨3, _, rfl, rfl, by omega, HO3, HB3⟩
              case measure => simp [intOf]
          · have ix : ∀ w, (Instr.index 74 (.agg #[.bool b0, .bool b1, .bool b2, .bool b3, .bool b4, .bool b5, .bool b6, .bool b7]) (.int .i64 3)).run Try.prog w = .ok (.bool b3) w := fun _ => by kernel_rfl
            cases b3
            · have ht : tagL m.mks p 4 = tagL m.mks p 3 := by rw [hts, if_neg (of_decide_eq_false HB3.out), List.append_nil]
              have HT := Lib.hid ht
              clear ht hts hll
              go_wp2_with fail
              go_roundw
              case rel => exact ⟨4, _, rfl, rfl, by omega, by rw [HT.out, HLN.out]; exact HO, HB⟩
              case measure => simp [intOf]
            · have ht : tagL m.mks p 4 = tagL m.mks p 3 ++ [8 * p + 3] := by rw [hts, if_pos (of_decide_eq_true HB3.out)]
              have HT := Lib.hid ht
              clear ht hts
              have wv : IntKind.u64.wrap ((p : Int) * 256 + 96) = (p : Int) * 256 + 96 := by rw [IntKind.wrap_u64]; omega
              go_wp2_with (at_builtin; refine wpList_appE 32 39 (.int .u64 0) 1 8 Try.underlying32 infoU64 rfl (by decide) (by decide) _ rfl _ _ rfl W1.heap.size (.slice va ln vc) ln (u64s ((tagsTo m.mks m.pgs j ++ tagL m.mks p 3).map (32 * ·))) rfl (HO.out.alloc _) (some ⟨wr.heap.size, 0, none⟩) 1 1 [.int .u64 ((p : Int) * 256 + 96)] rfl (Rd.lit wr #[.int .u64 ((p : Int) * 256 + 96)] 39 (by show 1 ≤ maxLen; decide)) (fun u hu => by simp at hu; subst hu; rfl) (by omega) (by rw [size_alloc]; exact Nat.le_succ_of_le hsz) ?_; intro a3 c3 W3 hown3 hgrow3 hat3)
              have HO3 : Hid (W3.ownsRow W1.heap.size 39 1 (.slice a3 (ln + 1) c3) (tagsTo m.mks m.pgs j ++ tagL m.mks p 4).length (u64s ((tagsTo m.mks m.pgs j ++ tagL m.mks p 4).map (32 * ·)))) := Lib.hid (by
                rw [HT.out, ← List.append_assoc, List.length_append, HLN.out, List.map_append, show u64s (List.map (32 * ·) (tagsTo m.mks m.pgs j ++ tagL m.mks p 3) ++ List.map (32 * ·) [8 * p + 3]) = u64s (List.map (32 * ·) (tagsTo m.mks m.pgs j ++ tagL m.mks p 3)) ++ [.int .u64 ((p : Int) * 256 + 96)] by rw [List.map_cons, List.map_nil, u64s_snoc, show ((32 * (8 * p + 3) : Nat) : Int) = (p : Int) * 256 + 96 by omega]]
                exact hown3)
              have HB3 := Lib.hid (grownB (bTrans HB.out (bAlloc (Below.refl _ _) (.cells #[.int .u64 ((p : Int) * 256 + 96)] 39))) hgrow3 (fun r e => (HO.out.lt r e).1))
              clear hown3 hgrow3 hat3 HO HB
              go_wp2_with fail
              go_roundw
              case rel => exact ⟨4, _, rfl, rfl, by omega, HO3, HB3⟩
              case measure => simp [intOf]
          · have ix : ∀ w, (Instr.index 74 (.agg #[.bool b0, .bool b1, .bool b2, .bool b3, .bool b4, .bool b5, .bool b6, .bool b7]) (.int .i64 4)).run Try.prog w = .ok (.bool b4) w := fun _ => by kernel_rfl
            cases b4
            · have ht : tagL m.mks p 5 = tagL m.mks p 4 := by rw [hts, if_neg (of_decide_eq_false HB4.out), List.append_nil]
              have HT := Lib.hid ht
              clear ht hts hll
              go_wp2_with fail
              go_roundw
              case rel => exact ⟨5, _, rfl, rfl, by omega, by rw [HT.out, HLN.out]; exact HO, HB⟩
              case measure => simp [intOf]
            · have ht : tagL m.mks p 5 = tagL m.mks p 4 ++ [8 * p + 4] := by rw [hts, if_pos (of_decide_eq_true HB4.out)]
              have HT := Lib.hid ht
              clear ht hts
              have wv : IntKind.u64.wrap ((p : Int) * 256 + 128) = (p : Int) * 256 + 128 := by rw [IntKind.wrap_u64]; omega
              go_wp2_with (at_builtin; refine wpList_appE 32 39 (.int .u64 0) 1 8 Try.underlying32 infoU64 rfl (by decide) (by decide) _ rfl _ _ rfl W1.heap.size (.slice va ln vc) ln (u64s ((tagsTo m.mks m.pgs j ++ tagL m.mks p 4).map (32 * ·))) rfl (HO.out.alloc _) (some ⟨wr.heap.size, 0, none⟩) 1 1 [.int .u64 ((p : Int) * 256 + 128)] rfl (Rd.lit wr #[.int .u64 ((p : Int) * 256 + 128)] 39 (by show 1 ≤ maxLen; decide)) (fun u hu => by simp at hu; subst hu; rfl) (by omega) (by rw [size_alloc]; exact Nat.le_succ_of_le hsz) ?_; intro a3 c3 W3 hown3 hgrow3 hat3)
              have HO3 : Hid (W3.ownsRow W1.heap.size 39 1 (.slice a3 (ln + 1) c3) (tagsTo m.mks m.pgs j ++ tagL m.mks p 5).length (u64s ((tagsTo m.mks m.pgs j ++ tagL m.mks p 5).map (32 * ·)))) := Lib.hid (by
                rw [HT.out, ← List.append_assoc, List.length_append, HLN.out, List.map_append, show u64s (List.map (32 * ·) (tagsTo m.mks m.pgs j ++ tagL m.mks p 4) ++ List.map (32 * ·) [8 * p + 4]) = u64s (List.map (32 * ·) (tagsTo m.mks m.pgs j ++ tagL m.mks p 4)) ++ [.int .u64 ((p : Int) * 256 + 128)] by rw [List.map_cons, List.map_nil, u64s_snoc, show ((32 * (8 * p + 4) : Nat) : Int) = (p : Int) * 256 + 128 by omega]]
                exact hown3)
              have HB3 := Lib.hid (grownB (bTrans HB.out (bAlloc (Below.refl _ _) (.cells #[.int .u64 ((p : Int) * 256 + 128)] 39))) hgrow3 (fun r e => (HO.out.lt r e).1))
              clear hown3 hgrow3 hat3 HO HB
              go_wp2_with fail
              go_roundw
              case rel => exact ⟨5, _, rfl, rfl, by omega, HO3, HB3⟩
              case measure => simp [intOf]
          · have ix : ∀ w, (Instr.index 74 (.agg #[.bool b0, .bool b1, .bool b2, .bool b3, .bool b4, .bool b5, .bool b6, .bool b7]) (.int .i64 5)).run Try.prog w = .ok (.bool b5) w := fun _ => by kernel_rfl
            cases b5
            · have ht : tagL m.mks p 6 = tagL m.mks p 5 := by rw [hts, if_neg (of_decide_eq_false HB5.out), List.append_nil]
              have HT := Lib.hid ht
              clear ht hts hll
              go_wp2_with fail
              go_roundw
              case rel => exact ⟨6, _, rfl, rfl, by omega, by rw [HT.out, HLN.out]; exact HO, HB⟩
              case measure => simp [intOf]
            · have ht : tagL m.mks p 6 = tagL m.mks p 5 ++ [8 * p + 5] := by rw [hts, if_pos (of_decide_eq_true HB5.out)]
              have HT := Lib.hid ht
              clear ht hts
              have wv : IntKind.u64.wrap ((p : Int) * 256 + 160) = (p : Int) * 256 + 160 := by rw [IntKind.wrap_u64]; omega
              go_wp2_with (at_builtin; refine wpList_appE 32 39 (.int .u64 0) 1 8 Try.underlying32 infoU64 rfl (by decide) (by decide) _ rfl _ _ rfl W1.heap.size (.slice va ln vc) ln (u64s ((tagsTo m.mks m.pgs j ++ tagL m.mks p 5).map (32 * ·))) rfl (HO.out.alloc _) (some ⟨wr.heap.size, 0, none⟩) 1 1 [.int .u64 ((p : Int) * 256 + 160)] rfl (Rd.lit wr #[.int .u64 ((p : Int) * 256 + 160)] 39 (by show 1 ≤ maxLen; decide)) (fun u hu => by simp at hu; subst hu; rfl) (by omega) (by rw [size_alloc]; exact Nat.le_succ_of_le hsz) ?_; intro a3 c3 W3 hown3 hgrow3 hat3)
              have HO3 : Hid (W3.ownsRow W1.heap.size 39 1 (.slice a3 (ln + 1) c3) (tagsTo m.mks m.pgs j ++ tagL m.mks p 6).length (u64s ((tagsTo m.mks m.pgs j ++ tagL m.mks p 6).map (32 * ·)))) := Lib.hid (by
                rw [HT.out, ← List.append_assoc, List.length_append, HLN.out, List.map_append, show u64s (List.map (32 * ·) (tagsTo m.mks m.pgs j ++ tagL m.mks p 5) ++ List.map (32 * ·) [8 * p + 5]) = u64s (List.map (32 * ·) (tagsTo m.mks m.pgs j ++ tagL m.mks p 5)) ++ [.int .u64 ((p : Int) * 256 + 160)] by rw [List.map_cons, List.map_nil, u64s_snoc, show ((32 * (8 * p + 5) : Nat) : Int) = (p : Int) * 256 + 160 by omega]]
                exact hown3)
              have HB3 := Lib.hid (grownB (bTrans HB.out (bAlloc (Below.refl _ _) (.cells #[.int .u64 ((p : Int) * 256 + 160)] 39))) hgrow3 (fun r e => (HO.out.lt r e).1))
              clear hown3 hgrow3 hat3 HO HB
              go_wp2_with fail
              go_roundw
              case rel => exact ⟨6, _, rfl, rfl, by omega, HO3, HB3⟩
              case measure => simp [intOf]
          · have ix : ∀ w, (Instr.index 74 (.agg #[.bool b0, .bool b1, .bool b2, .bool b3, .bool b4, .bool b5, .bool b6, .bool b7]) (.int .i64 6)).run Try.prog w = .ok (.bool b6) w := fun _ => by kernel_rfl
            cases b6
            · have ht : tagL m.mks p 7 = tagL m.mks p 6 := by rw [hts, if_neg (of_decide_eq_false HB6.out), List.append_nil]
              have HT := Lib.hid ht
              clear ht hts hll
              go_wp2_with fail
              go_roundw
              case rel => exact ⟨7, _, rfl, rfl, by omega, by rw [HT.out, HLN.out]; exact HO, HB⟩
              case measure => simp [intOf]
            · have ht : tagL m.mks p 7 = tagL m.mks p 6 ++ [8 * p + 6] := by rw [hts, if_pos (of_decide_eq_true HB6.out)]
              have HT := Lib.hid ht
              clear ht hts
              have wv : IntKind.u64.wrap ((p : Int) * 256 + 192) = (p : Int) * 256 + 192 := by rw [IntKind.wrap_u64]; omega
              go_wp2_with (at_builtin; refine wpList_appE 32 39 (.int .u64 0) 1 8 Try.underlying32 infoU64 rfl (by decide) (by decide) _ rfl _ _ rfl W1.heap.size (.slice va ln vc) ln (u64s ((tagsTo m.mks m.pgs j ++ tagL m.mks p 6).map (32 * ·))) rfl (HO.out.alloc _) (some ⟨wr.heap.size, 0, none⟩) 1 1 [.int .u64 ((p : Int) * 256 + 192)] rfl (Rd.lit wr #[.int .u64 ((p : Int) * 256 + 192)] 39 (by show 1 ≤ maxLen; decide)) (fun u hu => by simp at hu; subst hu; rfl) (by omega) (by rw [size_alloc]; exact Nat.le_succ_of_le hsz) ?_; intro a3 c3 W3 hown3 hgrow3 hat3)
              have HO3 : Hid (W3.ownsRow W1.heap.size 39 1 (.slice a3 (ln + 1) c3) (tagsTo m.mks m.pgs j ++ tagL m.mks p 7).length (u64s ((tagsTo m.mks m.pgs j ++ tagL m.mks p 7).map (32 * ·)))) := Lib.hid (by
                rw [HT.out, ← List.append_assoc, List.length_append, HLN.out, List.map_append, show u64s (List.map (32 * ·) (tagsTo m.mks m.pgs j ++ tagL m.mks p 6) ++ List.map (32 * ·) [8 * p + 6]) = u64s (List.map (32 * ·) (tagsTo m.mks m.pgs j ++ tagL m.mks p 6)) ++ [.int .u64 ((p : Int) * 256 + 192)] by rw [List.map_cons, List.map_nil, u64s_snoc, show ((32 * (8 * p + 6) : Nat) : Int) = (p : Int) * 256 + 192 by omega]]
                exact hown3)
              have HB3 := Lib.hid (grownB (bTrans HB.out (bAlloc (Below.refl _ _) (.cells #[.int .u64 ((p : Int) * 256 + 192)] 39))) hgrow3 (fun r e => (HO.out.lt r e).1))
              clear hown3 hgrow3 hat3 HO HB
              go_wp2_with fail
              go_roundw
              case rel => exact ⟨7, _, rfl, rfl, by omega, HO3, HB3⟩
              case measure => simp [intOf]
          · have ix : ∀ w, (Instr.index 74 (.agg #[.bool b0, .bool b1, .bool b2, .bool b3, .bool b4, .bool b5, .bool b6, .bool b7]) (.int .i64 7)).run Try.prog w = .ok (.bool b7) w := fun _ => by kernel_rfl
            cases b7
            · have ht : tagL m.mks p 8 = tagL m.mks p 7 := by rw [hts, if_neg (of_decide_eq_false HB7.out), List.append_nil]
              have HT := Lib.hid ht
              clear ht hts hll
              go_wp2_with fail
              go_roundw
              case rel => exact ⟨8, _, rfl, rfl, by omega, by rw [HT.out, HLN.out]; exact HO, HB⟩
              case measure => simp [intOf]
            · have ht : tagL m.mks p 8 = tagL m.mks p 7 ++ [8 * p + 7] := by rw [hts, if_pos (of_decide_eq_true HB7.out)]
              have HT := Lib.hid ht
              clear ht hts
              have wv : IntKind.u64.wrap ((p : Int) * 256 + 224) = (p : Int) * 256 + 224 := by rw [IntKind.wrap_u64]; omega
              go_wp2_with (at_builtin; refine wpList_appE 32 39 (.int .u64 0) 1 8 Try.underlying32 infoU64 rfl (by decide) (by decide) _ rfl _ _ rfl W1.heap.size (.slice va ln vc) ln (u64s ((tagsTo m.mks m.pgs j ++ tagL m.mks p 7).map (32 * ·))) rfl (HO.out.alloc _) (some ⟨wr.heap.size, 0, none⟩) 1 1 [.int .u64 ((p : Int) * 256 + 224)] rfl (Rd.lit wr #[.int .u64 ((p : Int) * 256 + 224)] 39 (by show 1 ≤ maxLen; decide)) (fun u hu => by simp at hu; subst hu; rfl) (by omega) (by rw [size_alloc]; exact Nat.le_succ_of_le hsz) ?_; intro a3 c3 W3 hown3 hgrow3 hat3)
              have HO3 : Hid (W3.ownsRow W1.heap.size 39 1 (.slice a3 (ln + 1) c3) (tagsTo m.mks m.pgs j ++ tagL m.mks p 8).length (u64s ((tagsTo m.mks m.pgs j ++ tagL m.mks p 8).map (32 * ·)))) := Lib.hid (by
                rw [HT.out, ← List.append_assoc, List.length_append, HLN.out, List.map_append, show u64s (List.map (32 * ·) (tagsTo m.mks m.pgs j ++ tagL m.mks p 7) ++ List.map (32 * ·) [8 * p + 7]) = u64s (List.map (32 * ·) (tagsTo m.mks m.pgs j ++ tagL m.mks p 7)) ++ [.int .u64 ((p : Int) * 256 + 224)] by rw [List.map_cons, List.map_nil, u64s_snoc, show ((32 * (8 * p + 7) : Nat) : Int) = (p : Int) * 256 + 224 by omega]]
                exact hown3)
              have HB3 := Lib.hid (grownB (bTrans HB.out (bAlloc (Below.refl _ _) (.cells #[.int .u64 ((p : Int) * 256 + 224)] 39))) hgrow3 (fun r e => (HO.out.lt r e).1))
              clear hown3 hgrow3 hat3 HO HB
              go_wp2_with fail
              go_roundw
              case rel => exact ⟨8, _, rfl, rfl, by omega, HO3, HB3⟩
              case measure => simp [intOf]
        · obtain rfl : i = 8 := by omega
          clear hll hts
          go_wp2_with fail
          go_roundw
          case rel => exact ⟨j + 1, _, rfl, by go_num, by omega, by rw [HSU.out, HLN.out]; exact HO, HB⟩
          case measure => simp [intOf]; omega
    · obtain rfl : n = j := by omega
      rw [HTA.out] at HO
      obtain ⟨va, vc, rfl, -⟩ := own_slice HO.out
      go_wp2_with fail
      go_ret
      exact ⟨va, vc, rfl, own_base HO.out HB1.out.size, HB1.out.trans (HB.out.mono HB1.out.size)⟩
end Go.Proofs.Ytgfkjlknkbdjiaa
