/- A page is written: its cells, the copying of bytes, the contract of write. -/
import Derived.Test.YteaididdamihlaaTmD
import Derived.Laws.CopyOwn
namespace Go.Proofs.Yteaididdamihlaa
set_option linter.unusedVariables false
set_option linter.unusedSimpArgs false
open Go.Joins Go.ChangeShapes Go.WideShapes Go.ChangeAt Go.RowKit Go.Deep

/-- a page's cells, of its bytes and tags -/
def pgC (by_ : Nat → Nat) (tg : Nat → Bool) : List Value := (List.range 256).map (fun j => Value.int .u8 (by_ j : Int)) ++ (List.range 8).map (fun i => Value.bool (tg i))
theorem pageC_eq (m : Mm) (p : Nat) : pageC m p = pgC (fun j => m.by_ (256 * p + j)) (fun i => decide (8 * p + i ∈ m.mks)) := rfl
theorem pgC_len (by_ : Nat → Nat) (tg : Nat → Bool) : (pgC by_ tg).length = 264 := by simp [pgC]
theorem pgC_by (by_ : Nat → Nat) (tg : Nat → Bool) (j : Nat) (h : j < 256) : (pgC by_ tg)[j]? = some (.int .u8 (by_ j : Int)) := by
  unfold pgC
  rw [List.getElem?_append_left (by simpa using h)]
  simp [h]
theorem pgC_tag (by_ : Nat → Nat) (tg : Nat → Bool) (i : Nat) (h : i < 8) : (pgC by_ tg)[256 + i]? = some (.bool (tg i)) := by
  unfold pgC
  rw [List.getElem?_append_right (by simp)]
  simp [h]
theorem pgC_at (by_ : Nat → Nat) (tg : Nat → Bool) (k : Nat) : (pgC by_ tg)[k]? = if k < 256 then some (.int .u8 (by_ k : Int)) else if k < 264 then some (.bool (tg (k - 256))) else none := by
  split
  · rename_i h; exact pgC_by _ _ _ h
  · rename_i h
    split
    · rename_i h2
      obtain ⟨i, rfl⟩ : ∃ i, k = 256 + i := ⟨k - 256, by omega⟩
      rw [pgC_tag _ _ _ (by omega), show 256 + i - 256 = i by omega]
    · rw [List.getElem?_eq_none_iff]; rw [pgC_len]; omega
theorem pgC_ext {b b' : Nat → Nat} {t t' : Nat → Bool} (hb : ∀ j, j < 256 → b j = b' j) (ht : ∀ i, i < 8 → t i = t' i) : pgC b t = pgC b' t' := by
  apply List.ext_getElem?
  intro k
  rw [pgC_at, pgC_at]
  split
  · rename_i h; rw [hb k h]
  · split
    · rename_i h h2; rw [ht _ (by omega)]
    · rfl
def updT (t : Nat → Bool) (g : Nat) (v : Bool) : Nat → Bool := fun x => if x = g then v else t x
theorem pgC_setTag (b : Nat → Nat) (t : Nat → Bool) (g : Nat) (v : Bool) (hg : g < 8) : (pgC b t).toArray.setIfInBounds (256 + g) (.bool v) = (pgC b (updT t g v)).toArray := by
  rw [List.setIfInBounds_toArray]
  congr 1
  apply List.ext_getElem?
  intro k
  rw [List.getElem?_set, pgC_at, pgC_at, pgC_len]
  unfold updT
  by_cases hk : 256 + g = k
  · subst hk
    rw [if_pos rfl, if_pos (by omega), if_neg (by omega), if_pos (by omega), if_pos (by omega)]
  · rw [if_neg hk]
    split
    · rfl
    · split
      · rw [if_neg (by omega)]
      · rfl
def updB (b : Nat → Nat) (i : Nat) (l : List Nat) : Nat → Nat := fun j => if h : i ≤ j ∧ j < i + l.length then l[j - i]'(by omega) else b j
theorem pgC_setBy (b : Nat → Nat) (t : Nat → Bool) (j x : Nat) (hj : j < 256) : (pgC b t).toArray.setIfInBounds j (.int .u8 (x : Int)) = (pgC (updB b j [x]) t).toArray := by
  rw [List.setIfInBounds_toArray]
  congr 1
  apply List.ext_getElem?
  intro k
  rw [List.getElem?_set, pgC_at, pgC_at, pgC_len]
  unfold updB
  by_cases hk : j = k
  · subst hk
    rw [if_pos rfl, if_pos (by omega), if_pos hj]
    simp
  · rw [if_neg hk]
    split
    · rw [dif_neg (by simp; omega)]
    · rfl
theorem splice_at {α : Type} (L : List α) (off : Nat) (cs : List α) (h : off + cs.length ≤ L.length) (k : Nat) : (splice L off cs)[k]? = if off ≤ k ∧ k < off + cs.length then cs[k - off]? else L[k]? := by
  unfold splice
  have ht : (L.take off).length = off := by rw [List.length_take]; omega
  by_cases h1 : k < off
  · rw [List.getElem?_append_left (by omega), List.getElem?_take, if_pos h1, if_neg (by omega)]
  · rw [List.getElem?_append_right (by omega), ht]
    by_cases h2 : k < off + cs.length
    · rw [List.getElem?_append_left (by omega), if_pos (by omega)]
    · rw [List.getElem?_append_right (by omega), if_neg (by omega), List.getElem?_drop, show off + cs.length + (k - off - cs.length) = k by omega]
theorem pgC_splice (b : Nat → Nat) (t : Nat → Bool) (i : Nat) (l : List Nat) (h : i + l.length ≤ 256) : splice (pgC b t) i (u8s l) = pgC (updB b i l) t := by
  apply List.ext_getElem?
  intro k
  have hl : (u8s l).length = l.length := u8s_length l
  rw [splice_at _ _ _ (by rw [pgC_len, hl]; omega), hl, pgC_at, pgC_at]
  unfold updB
  by_cases hk : i ≤ k ∧ k < i + l.length
  · rw [if_pos hk, if_pos (by omega), dif_pos hk, u8s_get _ _ (by omega)]
  · rw [if_neg hk]
    split
    · first | rfl | (rw [dif_neg hk])
    · rfl
theorem run_copyB (w : World) (ty : TypeId) (g off dLen dCap : Nat) (ad : Addr) (sLen sCap : Nat) (cur cs : List Value) (hg : BoxN w g cur.toArray) (hn : cs.length = Nat.min sLen dLen)
    (hsrc : ∀ j v, cs[j]? = some v → w.cell? (ad.add j) = some v) (hfit : off + cs.length ≤ cur.length) (h1 : ∀ v ∈ cs, v.oneCell' = true) :
    ∃ w', (Builtin.copy_ #[38, 38] ty #[.slice (some ⟨g, off, none⟩) dLen dCap, .slice (some ad) sLen sCap]).run Try.prog w = .ok (goInt cs.length) w' ∧ BoxN w' g (splice cur off cs).toArray ∧ KP w.heap.size (· = g) w w' := by
  obtain ⟨t, hg⟩ := hg
  refine ⟨_, run_copy_row (P := Try.prog) w 38 38 ty 5 g off dLen dCap ad sLen sCap cur.toArray t cs Try.underlying38 (by kernel_rfl) hg hn hsrc (by simpa using hfit) h1, ⟨t, ?_⟩, ⟨rfl, rfl, rfl, by simp [World.setRow], fun k hk hne => setRow_other w g k _ (fun e => hne (by omega))⟩⟩
  simpa [splice] using setRow_heap w g _ _ t _ hg
theorem wpList_copyB {w : World} {ops : Array Oper} {rest : List Oper} {o : Oper} {a : Act} {Q : Exit → Act → World → Prop} (hgd : o.guard = none) (d s : Operand)
    (ho : o.op = .call { callee := .builtin .copy, args := #[d, s], argTypes := #[38, 38] }) (g off dLen dCap : Nat) (ad : Addr) (sLen sCap : Nat) (hd : a.eval d = .slice (some ⟨g, off, none⟩) dLen dCap) (hs : a.eval s = .slice (some ad) sLen sCap)
    (cur cs : List Value) (hg : BoxN w g cur.toArray) (hn : cs.length = Nat.min sLen dLen) (hsrc : ∀ j v, cs[j]? = some v → w.cell? (ad.add j) = some v) (hfit : off + cs.length ≤ cur.length) (h1 : ∀ v ∈ cs, v.oneCell' = true)
    (h : ∀ w', BoxN w' g (splice cur off cs).toArray → KP w.heap.size (· = g) w w' → wpList Try.prog ops Q rest (a.put o.dst (goInt cs.length)) w') : wpList Try.prog ops Q (o :: rest) a w := by
  refine wpList_plain hgd fun K hK => ?_
  obtain ⟨w', hrun, h2, h3⟩ := run_copyB w o.type g off dLen dCap ad sLen sCap cur cs hg hn hsrc hfit h1
  unfold Oper.wp
  simp [execOp, ho, resolve, invoke, builtin, hd, hs, hrun, Result.andThen]
  exact hK _ _ (h w' h2 h3)
theorem step_copyB {w : World} {ops : Array Oper} {o : Oper} {a : Act} {K : Act → World → Prop} {Q : Exit → Act → World → Prop} {E : Prop} (hgd : o.guard = none) (d s : Operand)
    (ho : o.op = .call { callee := .builtin .copy, args := #[d, s], argTypes := #[38, 38] }) (g off dLen dCap : Nat) (ad : Addr) (sLen sCap : Nat) (hd : a.eval d = .slice (some ⟨g, off, none⟩) dLen dCap) (hs : a.eval s = .slice (some ad) sLen sCap)
    (cur cs : List Value) (hg : BoxN w g cur.toArray) (hn : cs.length = Nat.min sLen dLen) (hsrc : ∀ j v, cs[j]? = some v → w.cell? (ad.add j) = some v) (hfit : off + cs.length ≤ cur.length) (h1 : ∀ v ∈ cs, v.oneCell' = true)
    (h : ∀ w', BoxN w' g (splice cur off cs).toArray → KP w.heap.size (· = g) w w' → K (a.put o.dst (goInt cs.length)) w') : if Region.wanted o (yielded ops a.tmps) = true then Oper.wp Try.prog o a w K Q else E := by
  have hw : Region.wanted o (yielded ops a.tmps) = true := by simp [Region.wanted, hgd]
  rw [if_pos hw]
  obtain ⟨w', hrun, h2, h3⟩ := run_copyB w o.type g off dLen dCap ad sLen sCap cur cs hg hn hsrc hfit h1
  unfold Oper.wp
  simp [execOp, ho, resolve, invoke, builtin, hd, hs, hrun, Result.andThen]
  exact h w' h2 h3
theorem u8s_one (l : List Nat) : ∀ u ∈ u8s l, u.oneCell' = true := fun u hu => by
  obtain ⟨b, -, rfl⟩ := List.mem_map.1 hu
  rfl
theorem rd_src {w : World} {b off n : Nat} {l : List Value} (h : Rd w (some ⟨b, off, none⟩) n l) : ∀ j v, l[j]? = some v → w.cell? ((⟨b, off, none⟩ : Addr).add j) = some v := fun j v hj => by
  have hlt : j < n := by have := (List.getElem?_eq_some_iff.1 hj).1; rw [h.1] at this; exact this
  obtain ⟨b', off', e, -, hc⟩ := h.at_ hlt
  cases e
  rw [add_plain, hc, hj]
/-- the tags that are left where bytes were written -/
def tgW (t : Nat → Bool) (i n : Nat) : Nat → Bool := fun g => t g && !inGr i n g
def tgK (t : Nat → Bool) (i g : Nat) : Nat → Bool := fun x => t x && !(decide (i / 32 ≤ x) && decide (x < g))
theorem run_slL (w : World) (b i : Nat) (hi : i < 256) :
    (Instr.sliceAt 75 (.pointer (some ⟨b, 0, none⟩)) (some (.int .i64 (i : Int))) none none).run Try.prog w = .ok (.slice (some ⟨b, i, none⟩) (256 - i) (256 - i)) w := by
  have hu := Try.underlying75
  have ho : (sizeOf 5).run Try.prog w = .ok 1 w := by kernel_rfl
  have hl : Try.prog.arrayLen 75 = 256 := by kernel_rfl
  have he : Try.prog.elem 75 = 5 := by kernel_rfl
  rw [run_sliceAt_array_l w 75 ⟨b, 0, none⟩ (by rw [hl, he]; exact hu) .i64 (i : Int) (by omega) (by rw [hl]; omega), he, ho]
  simp only [Result.andThen, slicedAt, hl]
  rw [if_neg (by omega), Int.toNat_natCast]
  simp [Addr.add]
  exact fun e => e.symm
set_option maxRecDepth 20000 in
theorem write_any (W : World) (q i n c : Nat) (a : Option Addr) (b : Nat → Nat) (t : Nat → Bool) (l : List Nat) (hq : BoxN W q (pgC b t).toArray) (hln : l.length = n) (hn : 0 < n) (hi : i + n ≤ 256) (hs : Rd W a n (u8s l)) (hne : ∀ g off, a = some ⟨g, off, none⟩ → g ≠ q) :
    Calls Try.prog 46 #[.pointer (some ⟨q, 0, none⟩), .int .i64 (i : Int), .slice a n c] W fun e W' => e = .returned (.tuple #[]) ∧ BoxN W' q (pgC (updB b i l) (tgW t i n)).toArray ∧ KP W.heap.size (· = q) W W' := by
  obtain ⟨ab, ao, rfl, habl, -⟩ := hs.2 hn
  have hab := hne ab ao rfl
  have HS := Lib.hid hs
  have HQ0 : Hid (BoxN W q (pgC b (tgK t i (i / 32))).toArray) := Lib.hid (by
    rw [show pgC b (tgK t i (i / 32)) = pgC b t from pgC_ext (fun _ _ => rfl) (fun x _ => by
      unfold tgK
      have : (decide (i / 32 ≤ x) && decide (x < i / 32)) = false := by rw [Bool.and_eq_false_iff, decide_eq_false_iff_not, decide_eq_false_iff_not]; omega
      rw [this]; simp)]
    exact hq)
  have HLN := Lib.hid hln
  have hqs := hq.lt
  have w1 : IntKind.i64.wrap ((i : Int) + (n : Int)) = (i : Int) + (n : Int) := by rw [IntKind.wrap_i64]; omega
  have hsl := fun w => run_slL w q i (by omega)
  clear hs hq hln hne
  go_enter Try.func46, Try.ntmps46
  have e0 : (i : Int).tdiv 32 = ((i / 32 : Nat) : Int) := by rw [Int.tdiv_eq_ediv_of_nonneg (by omega)]; omega
  have e0' : (i : Int) / 32 = ((i / 32 : Nat) : Int) := by omega
  obtain ⟨g0, hg0⟩ : ∃ z, i / 32 = z := ⟨_, rfl⟩
  rw [hg0] at e0 e0' HQ0
  have HG0 := Lib.hid hg0
  have hg8 : g0 < 8 := by omega
  clear hg0
  go_wp2_with fail
  go_loopw [6] (fun gv wr => ∃ g : Nat, gv = .int .i64 g ∧ g0 ≤ g ∧ g ≤ 8 ∧ Hid (∀ x, g0 ≤ x → x < g → 32 * x < i + n) ∧ Hid (BoxN wr q (pgC b (tgK t i g)).toArray) ∧ Hid (KP W.heap.size (· = q) W wr)) (fun gv _ => 8 - (intOf gv).toNat)
  case atStart => exact ⟨g0, rfl, Nat.le_refl _, by omega, Lib.hid (fun x h1 h2 => by omega), HQ0, Lib.hid (KP.refl _ _ _)⟩
  case round =>
    clear HQ0
    obtain ⟨g, rfl, hg1, hg2, HX, HQ, HK⟩ := hrel
    have w2 : IntKind.i64.wrap ((g : Int) * 32) = (g : Int) * 32 := by rw [IntKind.wrap_i64]; omega
    by_cases hlt : (g : Int) * 32 < (i : Int) + (n : Int)
    · have hg3 : g < 8 := by omega
      have i8 : (g : Int) < 8 := by omega
      have i0 : (0 : Int) ≤ (g : Int) := by omega
      have cg : wr.cell? ⟨q, 256 + g, none⟩ = some (.bool (tgK t i g g)) := by rw [HQ.out.cell, List.getElem?_toArray, pgC_tag _ _ _ hg3]
      have zg : wr.frozen? ⟨q, 256 + g, none⟩ = false := HQ.out.frozen _
      have HQ2 : Hid (BoxN (wr.setCell ⟨q, 256 + g, none⟩ (.bool false)) q (pgC b (tgK t i (g + 1))).toArray) := Lib.hid (by
        have h1 := HQ.out.set (256 + g) (.bool false)
        rw [pgC_setTag _ _ _ _ hg3] at h1
        rw [show pgC b (tgK t i (g + 1)) = pgC b (updT (tgK t i g) g false) from pgC_ext (fun _ _ => rfl) (fun x _ => by
          unfold tgK updT
          have hg0 := HG0.out
          by_cases e : x = g
          · rw [if_pos e, decide_eq_true (by omega), decide_eq_true (by omega)]; simp
          · rw [if_neg e, show decide (x < g + 1) = decide (x < g) from decide_eq_decide.2 (by omega)])]
        exact h1)
      have HK2 := Lib.hid (HK.out.set ⟨q, 256 + g, none⟩ (Or.inr rfl) (.bool false))
      have HX2 : Hid (∀ x, g0 ≤ x → x < g + 1 → 32 * x < i + n) := Lib.hid (fun x h1 h2 => by
        by_cases e : x = g
        · subst e; omega
        · exact HX.out x h1 (by omega))
      go_wp2_with fail
      go_roundw
      case rel => exact ⟨g + 1, by go_num, by omega, by omega, HX2, HQ2, HK2⟩
      case measure => simp [intOf]; omega
    · have HQ2 : Hid (BoxN wr q (pgC b (tgW t i n)).toArray) := Lib.hid (by
        rw [show pgC b (tgW t i n) = pgC b (tgK t i g) from pgC_ext (fun _ _ => rfl) (fun x _ => by
          unfold tgW tgK inGr
          congr 2
          rw [Bool.eq_iff_iff]
          simp only [Bool.and_eq_true, decide_eq_true_eq]
          have hg0 := HG0.out
          constructor
          · rintro ⟨h1, h2⟩
            exact ⟨by omega, by omega⟩
          · rintro ⟨h1, h2⟩
            exact ⟨by omega, HX.out x (by omega) h2⟩)]
        exact HQ.out)
      have hsz := HK.out.size
      have HSR : Hid (Rd wr (some ⟨ab, ao, none⟩) n (u8s l)) := Lib.hid (HK.out.rd HS.out (fun b' off h0 e => by cases e; exact ⟨habl, hab⟩))
      have hmin : (u8s l).length = Nat.min n (256 - i) := by rw [u8s_length, HLN.out]; exact (Nat.min_eq_left (by omega)).symm
      have hfit : i + (u8s l).length ≤ (pgC b (tgW t i n)).length := by rw [u8s_length, HLN.out, pgC_len]; omega
      obtain ⟨w2, hrun, hb2, hk2⟩ := run_copyB wr 3 q i (256 - i) (256 - i) ⟨ab, ao, none⟩ n c (pgC b (tgW t i n)) (u8s l) HQ2.out hmin (rd_src HSR.out) hfit (u8s_one l)
      have HB2 := Lib.hid hb2
      have HK3 := Lib.hid (HK.out.trans (hk2.mono hsz (fun _ _ q => q)))
      clear hb2 hk2
      go_wp2_with fail
      go_end0
      refine ⟨rfl, ?_, HK3.out⟩
      rw [← pgC_splice b _ i l (by rw [HLN.out]; exact hi)]
      exact HB2.out
end Go.Proofs.Yteaididdamihlaa
