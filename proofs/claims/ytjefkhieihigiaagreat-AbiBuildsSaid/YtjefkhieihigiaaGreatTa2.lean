/- Merged: TmG TmH TmI TmJ TmL. -/
import Derived.Test.YtjefkhieihigiaaGreatTa1
import Derived.Deep.RegionLaw
import Derived.Carry
namespace Go.Proofs.YtjefkhieihigiaaGreat
set_option linter.unusedVariables false
set_option linter.unusedSimpArgs false
open Go.Joins Go.ChangeShapes Go.WideShapes Go.ChangeAt Go.RowKit Go.Deep

theorem manyB_add (m : Mm) (a n k : Nat) : manyB m a (n + k) = manyB m a n ++ manyB m (a + n) k := by
  unfold manyB
  rw [List.range_add, List.map_append, List.map_map]
  congr 1
  apply List.map_congr_left
  intro i _
  simp [Nat.add_assoc]
theorem infoU8m : (Tryz.prog.info? 5).map (fun i => (i.zero, i.size, i.bytes)) = some (some (.int .u8 0), 1, 1) := by kernel_rfl
theorem u8s_append (x y : List Nat) : u8s (x ++ y) = u8s x ++ u8s y := by simp [u8s]
theorem grownB {w w1 w2 : World} {row : Option Nat} (h : Below w.heap.size w w1) (hg : w1.grownBy w2 row) (hr : ∀ q, row = some q → w.heap.size ≤ q) : Below w.heap.size w w2 :=
  h.trans ⟨hg.os, hg.tape, hg.output, hg.size, fun b hb => hg.block b (Nat.lt_of_lt_of_le hb h.size) (fun e => by have := hr b e.symm; omega)⟩
theorem infoU8i : ∃ i, Tryz.prog.info? 5 = some i ∧ i.zero = some (.int .u8 0) ∧ i.size = 1 ∧ i.bytes = 1 := by
  have h := infoU8m
  cases hq : Tryz.prog.info? 5 with
  | none => rw [hq] at h; simp at h
  | some i => rw [hq] at h; simp only [Option.map_some, Option.some.injEq, Prod.mk.injEq] at h; exact ⟨i, rfl, h.1, h.2.1, h.2.2⟩
set_option maxRecDepth 100000 in
theorem bytes_any (W : World) (M B : Nat) (D : DataW Unit) (pb : Nat → Nat) (F : Nat → Prop) (m : Mm) (h : MemO W M B D pb F m) (a : Nat) (n : Int) (ha : a < 18446744073709551616) (hn0 : -9223372036854775808 ≤ n) (hn1 : n < 9223372036854775808) :
    Calls Tryz.prog 18 #[.pointer (some ⟨M, 0, none⟩), .int .u64 (a : Int), .int .i64 n] W fun e W' => (∃ ra rc, e = .returned (.slice ra (bytesF m a n).length rc) ∧ W'.ownsRow W.heap.size 5 1 (.slice ra (bytesF m a n).length rc) (bytesF m a n).length (u8s (bytesF m a n))) ∧ Below W.heap.size W W' := by
  by_cases h1 : n < 1
  · have hb : bytesF m a n = [] := by unfold bytesF; rw [if_pos (Or.inl h1)]
    rw [hb]
    clear hb
    go_enter Tryz.func18, Tryz.ntmps18
    go_wp2_with fail
    go_ret
    exact ⟨⟨_, _, rfl, World.ownsRow_nil _ _ _ _⟩, Below.refl _ _⟩
  · by_cases h2 : 65536 < n
    · have hb : bytesF m a n = [] := by unfold bytesF; rw [if_pos (Or.inr h2)]
      rw [hb]
      clear hb
      go_enter Tryz.func18, Tryz.ntmps18
      go_wp2_with fail
      go_ret
      exact ⟨⟨_, _, rfl, World.ownsRow_nil _ _ _ _⟩, Below.refl _ _⟩
    · obtain ⟨n, rfl⟩ : ∃ k : Nat, n = k := ⟨n.toNat, by omega⟩
      have h1n : 1 ≤ n := by omega
      have h2n : n ≤ 65536 := by omega
      clear hn0 hn1
      have HH := Lib.hid (has_any W M B D pb F m h a n ha (by omega))
      by_cases hall : allB m a n = true
      · have hb : bytesF m a n = manyB m a n := by unfold bytesF; rw [if_neg (by omega), Int.toNat_natCast, Int.toNat_natCast, if_pos hall]
        rw [hb, manyB_len]
        rw [hall] at HH
        have hsm := allB_small h.ok (by omega) hall
        have HALL := Lib.hid hall
        have HM := Lib.hid h
        obtain ⟨i0, hi0, hi1, hi2, hi3⟩ := infoU8i
        obtain ⟨W1, hmk, hown, hgr⟩ := run_make_own (P := Tryz.prog) W W.heap.size 52 5 i0 (.int .u8 0) 1 Tryz.underlying52 hi0 hi1 hi2 .i64 .i64 n (by rw [hi3]; omega) (by unfold maxLen; omega) (Nat.le_refl _)
        have HO := Lib.hid hown
        have HB : Hid (Below W.heap.size W W1) := Lib.hid ⟨hgr.os, hgr.tape, hgr.output, hgr.size, fun b hb => hgr.block b hb (by simp)⟩
        clear hb hall h hown hgr hi0 hi1 hi2 hi3
        go_enter Tryz.func18, Tryz.ntmps18
        go_wp2_with fail
        refine HH.out.mono ?_; rintro e W0 ⟨rfl, rfl⟩
        go_wp2_with fail
        clear hmk
        go_loopw [1, 7, 8, 9] (fun av bv _ _ wr => ∃ k : Nat, av = .int .u64 ((a + k : Nat) : Int) ∧ k ≤ n ∧ Hid (wr.ownsRow W.heap.size 5 1 bv k (u8s (manyB m a k))) ∧ Hid (Below W.heap.size W wr)) (fun av _ _ _ _ => a + n - (intOf av).toNat)
        case atStart => exact ⟨0, rfl, by omega, HO, HB⟩
        case round =>
          clear HO HB
          obtain ⟨k, rfl, hk, HO, HB⟩ := hrel
          obtain ⟨ra, rc, rfl, hrc⟩ := own_slice HO.out
          by_cases hlt : k < n
          · obtain ⟨d, hd⟩ : ∃ d, n = k + d := ⟨n - k, by omega⟩
            obtain ⟨x, hx⟩ : ∃ x, a + k = x := ⟨_, rfl⟩
            obtain ⟨i, hi⟩ : ∃ i, x % 256 = i := ⟨_, rfl⟩
            obtain ⟨r, hr⟩ : ∃ r, i + r = 256 := ⟨256 - i, by omega⟩
            have hin : x / 256 ∈ m.pgs := by
              have h3 := (allB_iff m a n (by omega)).1 HALL.out (x / 256) (by omega) (by omega)
              exact h3
            have HP := Lib.hid (fun W' (hb : Below W.heap.size W W') => pageOf_any W' M B D pb F m (HM.out.below hb) x (by omega))
            have hpp : pgP pb m (x / 256) = some ⟨pb (x / 256), 0, none⟩ := if_pos hin
            rw [hpp] at HP
            rw [hx]
            have kk : (k : Int) < (n : Int) := by omega
            have e1 : (x : Int) % 256 = (i : Int) := by omega
            have w0 : IntKind.i64.wrap (i : Int) = (i : Int) := IntWalk.i64_in _ (by omega)
            have w1 : IntKind.i64.wrap ((n : Int) - (k : Int)) = (d : Int) := by rw [IntKind.wrap_i64]; omega
            have w2 : IntKind.i64.wrap (256 - (i : Int)) = (r : Int) := by rw [IntKind.wrap_i64]; omega
            rcases Nat.lt_or_ge r d with hle | hle
            · have hcmp : (r : Int) < (d : Int) := by omega
              have hcmp2 : ¬ (d : Int) ≤ (r : Int) := by omega
              have w3 : IntKind.i64.wrap ((i : Int) + (r : Int)) = (i : Int) + (r : Int) := by rw [IntKind.wrap_i64]; omega
              have w4 : IntKind.u64.wrap (r : Int) = (r : Int) := by rw [IntKind.wrap_u64]; omega
              have w5 : IntKind.u64.wrap ((x : Int) + (r : Int)) = (x : Int) + (r : Int) := by rw [IntKind.wrap_u64]; omega
              have hsl := fun w => run_slA w (pb (x / 256)) i r (by omega) (by omega)
              have hrd : Rd wr (some ⟨pb (x / 256), i, none⟩) r (u8s (manyB m x r)) := by rw [← hi]; exact (HM.out.below HB.out).rdB x r hin (by omega)
              have HRD := Lib.hid hrd
              have HX := Lib.hid hx
              have HD := Lib.hid hd
              have HQD : Hid (0 < r ∧ k + r ≤ n) := Lib.hid (by omega)
              have hsz := HB.out.size
              clear hpp hin hrd hi hx hd hr hle hk
              go_wp2_with fail
              refine (HP.out _ HB.out).mono ?_; rintro e W2 ⟨rfl, rfl⟩
              go_wp2_with (at_builtin; refine wpList_appE 52 5 (.int .u8 0) 1 1 Tryz.underlying52 infoU8m rfl (by decide) (by decide) _ rfl _ _ rfl W.heap.size (.slice ra k rc) k (u8s (manyB m a k)) rfl HO.out (some ⟨pb (x / 256), i, none⟩) r (256 - i) (u8s (manyB m x r)) rfl (by rw [Nat.mul_one]; exact HRD.out) (u8s_one _) (by have := HQD.out; omega) hsz ?_; intro a3 c3 W3 hown3 hgrow3 hat3)
              have HO3 := Lib.hid (show W3.ownsRow W.heap.size 5 1 (.slice a3 (k + r) c3) (k + r) (u8s (manyB m a (k + r))) by rw [manyB_add, HX.out, u8s_append]; exact hown3)
              have HB3 := Lib.hid (grownB HB.out hgrow3 (fun r e => (HO.out.lt r e).1))
              clear hown3 hgrow3 hat3
              go_wp2_with fail
              go_roundw
              case rel => exact ⟨k + r, by rw [show ((a + (k + r) : Nat) : Int) = (x : Int) + (r : Int) by have := HX.out; omega], HQD.out.2, HO3, HB3⟩
              case measure => have := HQD.out; have := HX.out; simp [intOf]; omega
            · have hcmp : ¬ (r : Int) < (d : Int) := by omega
              have hcmp2 : (d : Int) ≤ (r : Int) := by omega
              have w3 : IntKind.i64.wrap ((i : Int) + (d : Int)) = (i : Int) + (d : Int) := by rw [IntKind.wrap_i64]; omega
              have w4 : IntKind.u64.wrap (d : Int) = (d : Int) := by rw [IntKind.wrap_u64]; omega
              have w5 : IntKind.u64.wrap ((x : Int) + (d : Int)) = (x : Int) + (d : Int) := by rw [IntKind.wrap_u64]; omega
              have hsl := fun w => run_slA w (pb (x / 256)) i d (by omega) (by omega)
              have hrd : Rd wr (some ⟨pb (x / 256), i, none⟩) d (u8s (manyB m x d)) := by rw [← hi]; exact (HM.out.below HB.out).rdB x d hin (by omega)
              have HRD := Lib.hid hrd
              have HX := Lib.hid hx
              have HD := Lib.hid hd
              have HQD : Hid (0 < d ∧ k + d ≤ n) := Lib.hid (by omega)
              have hsz := HB.out.size
              clear hpp hin hrd hi hx hd hr hle hk
              go_wp2_with fail
              refine (HP.out _ HB.out).mono ?_; rintro e W2 ⟨rfl, rfl⟩
              go_wp2_with (at_builtin; refine wpList_appE 52 5 (.int .u8 0) 1 1 Tryz.underlying52 infoU8m rfl (by decide) (by decide) _ rfl _ _ rfl W.heap.size (.slice ra k rc) k (u8s (manyB m a k)) rfl HO.out (some ⟨pb (x / 256), i, none⟩) d (256 - i) (u8s (manyB m x d)) rfl (by rw [Nat.mul_one]; exact HRD.out) (u8s_one _) (by have := HQD.out; omega) hsz ?_; intro a3 c3 W3 hown3 hgrow3 hat3)
              have HO3 := Lib.hid (show W3.ownsRow W.heap.size 5 1 (.slice a3 (k + d) c3) (k + d) (u8s (manyB m a (k + d))) by rw [manyB_add, HX.out, u8s_append]; exact hown3)
              have HB3 := Lib.hid (grownB HB.out hgrow3 (fun r e => (HO.out.lt r e).1))
              clear hown3 hgrow3 hat3
              go_wp2_with fail
              go_roundw
              case rel => exact ⟨k + d, by rw [show ((a + (k + d) : Nat) : Int) = (x : Int) + (d : Int) by have := HX.out; omega], HQD.out.2, HO3, HB3⟩
              case measure => have := HQD.out; have := HX.out; simp [intOf]; omega
          · obtain rfl : k = n := by omega
            go_wp2_with fail
            go_ret
            exact ⟨⟨_, _, rfl, HO.out⟩, HB.out⟩
      · have hb : bytesF m a n = [] := by unfold bytesF; rw [if_neg (by omega), Int.toNat_natCast, Int.toNat_natCast, if_neg hall]
        rw [hb]
        rw [Bool.eq_false_iff.2 hall] at HH
        clear hb hall h
        go_enter Tryz.func18, Tryz.ntmps18
        go_wp2_with fail
        refine HH.out.mono ?_; rintro e W0 ⟨rfl, rfl⟩
        go_wp2_with fail
        go_ret
        exact ⟨⟨_, _, rfl, World.ownsRow_nil _ _ _ _⟩, Below.refl _ _⟩
end Go.Proofs.YtjefkhieihigiaaGreat

namespace Go.Proofs.YtjefkhieihigiaaGreat
set_option linter.unusedVariables false
set_option linter.unusedSimpArgs false
open Go.Joins Go.ChangeShapes Go.WideShapes Go.ChangeAt Go.RowKit Go.Deep

/-- a row with its first n elements cut off -/
def cutA (a : Option Addr) (n c : Nat) : Option Addr := if c = n then a else a.map fun x => x.add n
theorem rd_cut {w : World} {a : Option Addr} {m c : Nat} {l : List Nat} (h : Rd w a m (u8s l)) (n : Nat) (hn : n ≤ m) (hc : m ≤ c) : Rd w (cutA a n c) (m - n) (u8s (l.drop n)) := by
  have hl : l.length = m := by rw [← u8s_length]; exact h.1
  refine ⟨by rw [u8s_length, List.length_drop, hl], fun h0 => ?_⟩
  obtain ⟨b, off, e, hb, hq⟩ := h.2 (by omega)
  refine ⟨b, off + n, ?_, hb, fun k hk => ?_⟩
  · unfold cutA
    rw [if_neg (by omega), e]
    simp [Addr.add]
  · rw [Nat.add_assoc, hq (n + k) (by omega)]
    simp [u8s]
theorem rd_take {w : World} {a : Option Addr} {m : Nat} {l : List Nat} (h : Rd w a m (u8s l)) (n : Nat) (hn : n ≤ m) : Rd w a n (u8s (l.take n)) := by
  have hl : l.length = m := by rw [← u8s_length]; exact h.1
  refine ⟨by rw [u8s_length, List.length_take, hl]; omega, fun h0 => ?_⟩
  obtain ⟨b, off, e, hb, hq⟩ := h.2 (by omega)
  refine ⟨b, off, e, hb, fun k hk => ?_⟩
  rw [hq k (by omega)]
  simp [u8s, List.getElem?_take, hk]
theorem run_cutB (w : World) (a : Option Addr) (n m c : Nat) (hn : n ≤ m) (hc : m ≤ c) : (Instr.sliceAt 52 (.slice a m c) (some (.int .i64 (n : Int))) none none).run Tryz.prog w = .ok (.slice (cutA a n c) (m - n) (c - n)) w := by
  have hu := Tryz.underlying52
  have ho : (sizeOf 5).run Tryz.prog w = .ok 1 w := by kernel_rfl
  have he : Tryz.prog.elem 52 = 5 := by kernel_rfl
  rw [run_sliceAt_slice w 52 _ _ _ _ (by rw [he]; exact hu), run_slice_l w 52 a m c (by rw [he]; exact hu) .i64 (n : Int) (by omega) (by omega), he, ho]
  simp [Result.andThen, sliced, cutA]
theorem run_headB (w : World) (a : Option Addr) (n m c : Nat) (hn : n ≤ m) (hc : m ≤ c) (h0 : 0 < c) : (Instr.sliceAt 52 (.slice a m c) none (some (.int .i64 (n : Int))) none).run Tryz.prog w = .ok (.slice a n c) w := by
  have hu := Tryz.underlying52
  have ho : (sizeOf 5).run Tryz.prog w = .ok 1 w := by kernel_rfl
  have he : Tryz.prog.elem 52 = 5 := by kernel_rfl
  rw [run_sliceAt_slice w 52 _ _ _ _ (by rw [he]; exact hu), run_slice_h w 52 a m c (by rw [he]; exact hu) .i64 (n : Int) (by omega) (by omega), he, ho]
  simp [Result.andThen, sliced, Addr.add]
set_option maxRecDepth 100000 in
set_option maxHeartbeats 1000000 in
theorem put_any (W : World) (M : Nat) (F : Nat → Prop) (m : Mm) (h : MemAt W M F m) (x n c : Nat) (sa : Option Addr) (l : List Nat) (hx : x < 18446744073709551616) (hln : l.length = n) (hnc : n ≤ c) (hn : n < 9223372036854775808) (hbl : ∀ b ∈ l, b < 256) (hs : Rd W sa n (u8s l)) (hne : ∀ g off, sa = some ⟨g, off, none⟩ → ¬ F g) :
    Calls Tryz.prog 54 #[.pointer (some ⟨M, 0, none⟩), .int .u64 (x : Int), .slice sa n c] W fun e W' => e = .returned (.int .i64 (putF m x l).2) ∧ MemAt W' M F (putF m x l).1 ∧ KP W.heap.size F W W' := by
  obtain ⟨B, D, pb, h⟩ := h
  have HH := Lib.hid (has_any W M B D pb F m h x n hx hn)
  by_cases hall : allB m x n = true
  · have hp : putF m x l = (wrL m x l, 0) := by unfold putF; rw [hln, Int.toNat_natCast, if_pos hall]
    rw [hp]
    rw [hall] at HH
    have hsm : n = 0 ∨ x + n ≤ 16777216 := by
      rcases Nat.eq_zero_or_pos n with h0 | h0
      · exact Or.inl h0
      · exact Or.inr (allB_small h.ok h0 hall)
    have HALL := Lib.hid hall
    have HOK := Lib.hid h.ok
    have HM0 := Lib.hid h
    have HLN := Lib.hid hln
    have HBL := Lib.hid hbl
    have HS0 := Lib.hid hs
    have HNE0 := Lib.hid hne
    clear hp hall h hln hbl hs hne
    go_enter Tryz.func54, Tryz.ntmps54
    go_wp2_with fail
    refine HH.out.mono ?_; rintro e W0 ⟨rfl, rfl⟩
    go_wp2_with fail
    go_loopw [1, 2, 7, 8] (fun av sv _ _ wr => ∃ (k d c' : Nat) (sa' : Option Addr), av = .int .u64 ((x + k : Nat) : Int) ∧ sv = .slice sa' d c' ∧ k + d = n ∧ d ≤ c' ∧ Hid (Rd wr sa' d (u8s (l.drop k))) ∧ Hid (∀ g off, sa' = some ⟨g, off, none⟩ → ¬ F g) ∧ Hid (MemO wr M B D pb F (wrL m x (l.take k))) ∧ Hid (KP W.heap.size F W wr)) (fun av _ _ _ _ => x + n - (intOf av).toNat)
    case atStart => exact ⟨0, n, c, sa, rfl, rfl, by omega, hnc, HS0, HNE0, HM0, Lib.hid (KP.refl _ _ _)⟩
    case round =>
      clear HS0 HNE0 HM0 HH hnc
      obtain ⟨k, d, c, sa, rfl, rfl, hd, hdc, HS, HNE, HM, HK⟩ := hrel
      by_cases hlt : 0 < d
      · obtain ⟨y, hx⟩ : ∃ y, x + k = y := ⟨_, rfl⟩
        obtain ⟨i, hi⟩ : ∃ i, y % 256 = i := ⟨_, rfl⟩
        obtain ⟨r, hr⟩ : ∃ r, i + r = 256 := ⟨256 - i, by omega⟩
        have hin : y / 256 ∈ m.pgs := (allB_iff m x n (by omega)).1 HALL.out (y / 256) (by omega) (by omega)
        have HP := Lib.hid (fun W' (hb : Below wr.heap.size wr W') => pageOf_any W' M B D pb F _ (HM.out.below hb) y (by omega))
        have hpp : pgP pb (wrL m x (l.take k)) (y / 256) = some ⟨pb (y / 256), 0, none⟩ := if_pos (by rw [(wrL_pgs m x _).1]; exact hin)
        rw [hpp] at HP
        rw [hx]
        have kk : (0 : Int) < (d : Int) := by omega
        have e1 : (y : Int) % 256 = (i : Int) := by omega
        have w0 : IntKind.i64.wrap (i : Int) = (i : Int) := IntWalk.i64_in _ (by omega)
        have w2 : IntKind.i64.wrap (256 - (i : Int)) = (r : Int) := by rw [IntKind.wrap_i64]; omega
        rcases Nat.lt_or_ge r d with hle | hle
        · have hcmp : (r : Int) < (d : Int) := by omega
          have hcmp2 : ¬ (d : Int) ≤ (r : Int) := by omega
          have w4 : IntKind.u64.wrap (r : Int) = (r : Int) := by rw [IntKind.wrap_u64]; omega
          have w5 : IntKind.u64.wrap ((y : Int) + (r : Int)) = (y : Int) + (r : Int) := by rw [IntKind.wrap_u64]; omega
          have hhd := fun w => run_headB w sa r d c (by omega) hdc (by omega)
          have hct := fun w => run_cutB w sa r d c (by omega) hdc
          have HW := Lib.hid (fun W' (hb : Below wr.heap.size wr W') => wr_any W' M B D pb F _ (HM.out.below hb) y r c sa ((l.drop k).take r) (by rw [(wrL_pgs m x _).1]; exact hin) (by rw [List.length_take, List.length_drop, HLN.out]; omega) (by omega) (by omega) (fun b hb => HBL.out b (List.mem_of_mem_drop (List.mem_of_mem_take hb))) (rd_take (HS.out.below hb) r (by omega)) HNE.out)
          rw [hi] at HW
          have HS2 := Lib.hid (fun W' (hk : KP wr.heap.size F wr W') => rd_cut (hk.rd HS.out (fun b off h0 e => ⟨by obtain ⟨b', off', e', hl', -⟩ := HS.out.2 h0; rw [e] at e'; cases e'; exact hl', HNE.out b off e⟩)) r (by omega) hdc)
          have HQD : Hid (0 < r ∧ r ≤ d ∧ k + (d - r) + r = n ∧ d - r ≤ c - r) := Lib.hid (by omega)
          have hcl : (d : Int) - (r : Int) = ((d - r : Nat) : Int) := by omega
          have HX := Lib.hid hx
          have HWL : Hid (wrL (wrL m x (l.take k)) y ((l.drop k).take r) = wrL m x (l.take (k + r))) := Lib.hid (by
            rw [List.take_add, wrL_append, List.length_take, HLN.out, show min k n = k by omega, HX.out])
          have HPF := Lib.hid (show F (pb (y / 256)) from HM.out.fp _ (by rw [(wrL_pgs m x _).1]; exact hin))
          have HNE2 : Hid (∀ g off, cutA sa r c = some ⟨g, off, none⟩ → ¬ F g) := Lib.hid (fun g off e => by
            obtain ⟨b0, o0, e0, -⟩ := HS.out.2 hlt
            have h1 := HNE.out b0 o0 e0
            unfold cutA at e
            rw [e0] at e
            have h2 : b0 = g := by
              split at e
              · cases e; rfl
              · simp only [Option.map_some, Option.some.injEq] at e
                unfold Addr.add at e
                simp only at e
                split at e <;> (cases e; rfl)
            rw [← h2]
            exact h1)
          clear hpp hin hi hx hd hr hle hcl
          go_upto_region 6 with fail
          go_region_law (first
            | (go_simp; go_at_call 42; refine (HP.out _ (below_dN wr 1)).mono ?_; rintro e W2 ⟨rfl, rfl⟩; dsimp only)
            | (go_simp; go_at_call 69; refine (HW.out _ (below_dN wr 1)).mono ?_; rintro e W3 ⟨rfl, hm3, hk3⟩; have HM3 := Lib.hid hm3; have HK3 := Lib.hid hk3; clear hm3 hk3; dsimp only))
          all_goals
            have HKD : Hid (KP W.heap.size F W W3) := Lib.hid (HK.out.drew.trans (HK3.out.mono HK.out.size (fun b _ e => by rw [show b = pb (y / 256) from e]; exact HPF.out)))
            have HS3 := Lib.hid (HS2.out W3 ((KP.refl wr.heap.size F wr).drew.trans (HK3.out.mono (Nat.le_refl _) (fun b _ e => by rw [show b = pb (y / 256) from e]; exact HPF.out))))
            have HM4 : Hid (MemO W3 M B D pb F (wrL m x (l.take (k + r)))) := Lib.hid (by have := HM3.out; rwa [HWL.out] at this)
            clear HM3 HS HK HM HW HP HS2
            go_wp2_with fail
            go_quiet (fail)
            go_wp2_with fail
            go_roundw
            case rel => exact ⟨k + r, d - r, c - r, cutA sa r c, by rw [show ((x + (k + r) : Nat) : Int) = (y : Int) + (r : Int) by have := HX.out; omega], by first | rfl | rw [Nat.sub_self], by have := HQD.out; omega, HQD.out.2.2.2, Lib.hid (by have h1 := HS3.out; rw [List.drop_drop] at h1; exact h1.drewN _), HNE2, Lib.hid (HM4.out.below (below_dN _ _)), Lib.hid (HKD.out.below (below_dN _ _) HKD.out.size)⟩
            case measure => have := HQD.out; have := HX.out; simp [intOf]; omega
        · have hcmp : ¬ (r : Int) < (d : Int) := by omega
          have hcmp2 : (d : Int) ≤ (r : Int) := by omega
          have w4 : IntKind.u64.wrap (d : Int) = (d : Int) := by rw [IntKind.wrap_u64]; omega
          have w5 : IntKind.u64.wrap ((y : Int) + (d : Int)) = (y : Int) + (d : Int) := by rw [IntKind.wrap_u64]; omega
          have hhd := fun w => run_headB w sa d d c (by omega) hdc (by omega)
          have hct := fun w => run_cutB w sa d d c (by omega) hdc
          have HW := Lib.hid (fun W' (hb : Below wr.heap.size wr W') => wr_any W' M B D pb F _ (HM.out.below hb) y d c sa ((l.drop k).take d) (by rw [(wrL_pgs m x _).1]; exact hin) (by rw [List.length_take, List.length_drop, HLN.out]; omega) (by omega) (by omega) (fun b hb => HBL.out b (List.mem_of_mem_drop (List.mem_of_mem_take hb))) (rd_take (HS.out.below hb) d (by omega)) HNE.out)
          rw [hi] at HW
          have HS2 := Lib.hid (fun W' (hk : KP wr.heap.size F wr W') => rd_cut (hk.rd HS.out (fun b off h0 e => ⟨by obtain ⟨b', off', e', hl', -⟩ := HS.out.2 h0; rw [e] at e'; cases e'; exact hl', HNE.out b off e⟩)) d (by omega) hdc)
          have HQD : Hid (0 < d ∧ d ≤ d ∧ k + (d - d) + d = n ∧ d - d ≤ c - d) := Lib.hid (by omega)
          have hcl : (d : Int) - (d : Int) = ((d - d : Nat) : Int) := by omega
          have HX := Lib.hid hx
          have HWL : Hid (wrL (wrL m x (l.take k)) y ((l.drop k).take d) = wrL m x (l.take (k + d))) := Lib.hid (by
            rw [List.take_add, wrL_append, List.length_take, HLN.out, show min k n = k by omega, HX.out])
          have HPF := Lib.hid (show F (pb (y / 256)) from HM.out.fp _ (by rw [(wrL_pgs m x _).1]; exact hin))
          have HNE2 : Hid (∀ g off, cutA sa d c = some ⟨g, off, none⟩ → ¬ F g) := Lib.hid (fun g off e => by
            obtain ⟨b0, o0, e0, -⟩ := HS.out.2 hlt
            have h1 := HNE.out b0 o0 e0
            unfold cutA at e
            rw [e0] at e
            have h2 : b0 = g := by
              split at e
              · cases e; rfl
              · simp only [Option.map_some, Option.some.injEq] at e
                unfold Addr.add at e
                simp only at e
                split at e <;> (cases e; rfl)
            rw [← h2]
            exact h1)
          clear hpp hin hi hx hd hr hle hcl
          go_upto_region 6 with fail
          go_region_law (first
            | (go_simp; go_at_call 42; refine (HP.out _ (below_dN wr 1)).mono ?_; rintro e W2 ⟨rfl, rfl⟩; dsimp only)
            | (go_simp; go_at_call 69; refine (HW.out _ (below_dN wr 1)).mono ?_; rintro e W3 ⟨rfl, hm3, hk3⟩; have HM3 := Lib.hid hm3; have HK3 := Lib.hid hk3; clear hm3 hk3; dsimp only))
          all_goals
            have HKD : Hid (KP W.heap.size F W W3) := Lib.hid (HK.out.drew.trans (HK3.out.mono HK.out.size (fun b _ e => by rw [show b = pb (y / 256) from e]; exact HPF.out)))
            have HS3 := Lib.hid (HS2.out W3 ((KP.refl wr.heap.size F wr).drew.trans (HK3.out.mono (Nat.le_refl _) (fun b _ e => by rw [show b = pb (y / 256) from e]; exact HPF.out))))
            have HM4 : Hid (MemO W3 M B D pb F (wrL m x (l.take (k + d)))) := Lib.hid (by have := HM3.out; rwa [HWL.out] at this)
            clear HM3 HS HK HM HW HP HS2
            go_wp2_with fail
            go_quiet (fail)
            go_wp2_with fail
            go_roundw
            case rel => exact ⟨k + d, d - d, c - d, cutA sa d c, by rw [show ((x + (k + d) : Nat) : Int) = (y : Int) + (d : Int) by have := HX.out; omega], by first | rfl | rw [Nat.sub_self], by have := HQD.out; omega, HQD.out.2.2.2, Lib.hid (by have h1 := HS3.out; rw [List.drop_drop] at h1; exact h1.drewN _), HNE2, Lib.hid (HM4.out.below (below_dN _ _)), Lib.hid (HKD.out.below (below_dN _ _) HKD.out.size)⟩
            case measure => have := HQD.out; have := HX.out; simp [intOf]; omega
      · obtain rfl : d = 0 := by omega
        obtain rfl : k = n := by omega
        have hM := HM.out
        rw [List.take_of_length_le (by rw [HLN.out]; exact Nat.le_refl _)] at hM
        have HM2 := Lib.hid hM.at_
        clear hM
        go_wp2_with fail
        go_ret
        exact ⟨rfl, HM2.out, HK.out⟩
  · have hp : putF m x l = (m, 30) := by unfold putF; rw [hln, Int.toNat_natCast, if_neg hall]
    rw [hp]
    rw [Bool.eq_false_iff.2 hall] at HH
    have HM0 := Lib.hid h.at_
    clear hp hall h hln hbl hs hne
    go_enter Tryz.func54, Tryz.ntmps54
    go_wp2_with fail
    refine HH.out.mono ?_; rintro e W0 ⟨rfl, rfl⟩
    go_wp2_with fail
    go_ret
    exact ⟨rfl, HM0.out, KP.refl _ _ _⟩
end Go.Proofs.YtjefkhieihigiaaGreat

namespace Go.Proofs.YtjefkhieihigiaaGreat
set_option linter.unusedVariables false
set_option linter.unusedSimpArgs false
open Go.Joins Go.ChangeShapes Go.WideShapes Go.ChangeAt Go.RowKit Go.Deep

def kU (p : Nat) : Lit := .int .u64 (p : Int)
theorem kU_ne {p q : Nat} (h : p ≠ q) : kU p ≠ kU q := by
  intro e
  unfold kU at e
  injection e with _ e
  exact h (Int.ofNat.inj e)
theorem kU_key (p : Nat) : WideAt.IsKeyLit (kU p) := trivial
theorem Says.add {D : DataW Unit} {pb : Nat → Nat} {l : List Nat} (h : Says D pb l) (ht : Maps.Tidy D) (hm : Maps.IsMap D) (p q : Nat) (hp : p ∉ l) (hp1 : p < 18446744073709551616) :
    Says (D.put (kU p) (.lit (.int .i64 (q : Int)))) (fun x => if x = p then q else pb x) (ins p l) := by
  have hh := h.has p hp1
  rw [decide_eq_false hp] at hh
  refine ⟨fun x hx => ?_, fun x hx => ?_, ?_⟩
  · by_cases e : x = p
    · subst e
      rw [show (Lit.int .u64 (x : Int)) = kU x from rfl, Maps.atKey_put_same hm (kU_key x), if_pos ((mem_ins x x l).2 (Or.inl rfl)), if_pos rfl]
    · rw [show (Lit.int .u64 (x : Int)) = kU x from rfl, Maps.atKey_put_other (kU_ne e)]
      have := h.at_ x hx
      rw [show (Lit.int .u64 (x : Int)) = kU x from rfl] at this
      rw [this, if_neg e]
      by_cases hx2 : x ∈ l
      · rw [if_pos hx2, if_pos ((mem_ins p x l).2 (Or.inr hx2))]
      · rw [if_neg hx2, if_neg (fun q => by rcases (mem_ins p x l).1 q with q | q; exact e q; exact hx2 q)]
  · by_cases e : x = p
    · subst e
      rw [show (Lit.int .u64 (x : Int)) = kU x from rfl, Maps.has_put_same hm (kU_key x), decide_eq_true ((mem_ins x x l).2 (Or.inl rfl))]
    · rw [show (Lit.int .u64 (x : Int)) = kU x from rfl, Maps.has_put_other (kU_ne e)]
      have := h.has x hx
      rw [show (Lit.int .u64 (x : Int)) = kU x from rfl] at this
      rw [this]
      refine decide_eq_decide.2 ?_
      rw [mem_ins]
      constructor
      · exact Or.inr
      · rintro (q | q); exact absurd q e; exact q
  · rw [Maps.size_put ht, show Maps.has D (kU p) = false from hh, h.size, length_ins]
    rfl
theorem page_addP (m : Mm) (p q : Nat) : pageC (addP m p) q = pageC m q := rfl
theorem page_none {m : Mm} (h : Okm m) {p : Nat} (hp : p ∉ m.pgs) : pageC m p = pgC (fun _ => 0) (fun _ => false) := by
  rw [pageC_eq]
  refine pgC_ext (fun j hj => h.off _ (by rw [show (256 * p + j) / 256 = p by omega]; exact hp)) (fun i hi => decide_eq_false fun e => hp ?_)
  have := h.ml _ e
  rwa [show (8 * p + i) / 8 = p by omega] at this
/-- a page is mapped -/
theorem MemO.add {W : World} {M B : Nat} {D : DataW Unit} {pb : Nat → Nat} {F : Nat → Prop} {m : Mm} (h : MemO W M B D pb F m) (p : Nat) (hp : p ∉ m.pgs) (hp1 : p < 65536) (hl : m.pgs.length < m.bud) :
    ∃ W', (Instr.mapUpdate 58 (.map (some B)) (.int .u64 (p : Int)) (.pointer (some ⟨W.heap.size, 0, none⟩))).run Tryz.prog (W.alloc (.cells (pgC (fun _ => 0) (fun _ => false)).toArray 67)) = .ok () W' ∧
      (∃ D', MemO W' M B D' (fun x => if x = p then W.heap.size else pb x) (fun b => F b ∨ b = W.heap.size) (addP m p)) ∧ KP W.heap.size (· = B) W W' := by
  have hown := h.own.alloc (.cells (pgC (fun _ => 0) (fun _ => false)).toArray 67)
  have hbd := h.ok.bud
  have hln := h.ok.len
  obtain ⟨W', hrun, hown', ht⟩ := hown.store keyed Tryz.underlying58 (by unfold maxLen; omega) (key := .int .u64 (p : Int)) (val := .pointer (some ⟨W.heap.size, 0, none⟩)) (key_u64 (p : Int) (by omega) (by omega)) (d := .lit (.int .i64 (W.heap.size : Int))) (ps := []) rfl
  have hg := ht.grown
  have hsz : W.heap.size + 1 ≤ W'.heap.size := by have := hg.size; rwa [size_alloc] at this
  have hbl : ∀ b, b < W.heap.size → b ≠ B → W'.heap[b]? = W.heap[b]? := fun b hb hne => (hg.block b (by rw [size_alloc]; omega) (fun e => hne (by simpa using e))).trans ((bAlloc (Below.refl W.heap.size W) _).block b hb)
  have hB := h.lt _ h.fb
  refine ⟨W', hrun, ⟨D.put (kU p) (.lit (.int .i64 (W.heap.size : Int))), ?_⟩, ⟨hg.os, hg.tape, hg.output, by omega, fun b hb hne => hbl b hb hne⟩⟩
  refine ⟨okm_addP h.ok hp hp1 hl, boxN_block h.box (hbl _ (h.lt _ h.fm) h.mb), ?_, h.says.add (h.own.tidy keyed) h.own.isMap p _ hp (by omega), ?_, ?_, Or.inl h.fm, Or.inl h.fb, ?_, ?_⟩
  · show W'.ownsMap _ _ _ _ (ins p m.pgs).length _
    rw [length_ins]
    exact hown'
  · intro q hq
    rw [page_addP]
    by_cases e : q = p
    · subst e
      rw [if_pos rfl, page_none h.ok hp]
      exact boxN_block (BoxN.new W _ _) (hg.block _ (by rw [size_alloc]; omega) (fun e => by have h9 : W.heap.size = B := (by simpa using e); omega))
    · rw [if_neg e]
      have hq2 : q ∈ m.pgs := by rcases (mem_ins p q _).1 hq with e2 | e2; exact absurd e2 e; exact e2
      exact boxN_block (h.pg q hq2) (hbl _ (h.lt _ (h.fp q hq2)) (h.pB hq2))
  · intro a ha b hb
    have ha2 : a = p ∨ a ∈ m.pgs := (mem_ins p a _).1 ha
    have hb2 : b = p ∨ b ∈ m.pgs := (mem_ins p b _).1 hb
    intro e
    by_cases e1 : a = p
    · by_cases e2 : b = p
      · rw [e1, e2]
      · exfalso
        have hb3 : b ∈ m.pgs := hb2.resolve_left e2
        have := h.lt _ (h.fp b hb3)
        simp only [if_pos e1, if_neg e2] at e
        omega
    · have ha3 : a ∈ m.pgs := ha2.resolve_left e1
      by_cases e2 : b = p
      · exfalso
        have := h.lt _ (h.fp a ha3)
        simp only [if_neg e1, if_pos e2] at e
        omega
      · simp only [if_neg e1, if_neg e2] at e
        exact h.inj a ha3 b (hb2.resolve_left e2) e
  · intro q hq
    by_cases e : q = p
    · simp only [if_pos e]; exact Or.inr trivial
    · simp only [if_neg e]
      exact Or.inl (h.fp q (((mem_ins p q _).1 hq).resolve_left e))
  · rintro b (hb | rfl)
    · have := h.lt b hb; omega
    · omega
end Go.Proofs.YtjefkhieihigiaaGreat

namespace Go.Proofs.YtjefkhieihigiaaGreat
set_option linter.unusedVariables false
set_option linter.unusedSimpArgs false
open Go.Joins Go.ChangeShapes Go.WideShapes Go.ChangeAt Go.RowKit Go.Deep

def emptyM (b : Nat) : Mm := ⟨[], fun _ => 0, [], b⟩
theorem okm_empty (b : Nat) (hb : b ≤ 256) : Okm (emptyM b) := ⟨List.Pairwise.nil, by simp [emptyM], by simp [emptyM], hb, fun a => by simp [emptyM], fun a _ => rfl, List.Pairwise.nil, by simp [emptyM]⟩
def badB (b : Int) : Bool := decide (b < 0) || decide (256 < b)
set_option maxRecDepth 20000 in
theorem new_any (b : Int) (W : World) :
    Calls Tryz.prog 6 #[.int .i64 b] W fun e W' => (badB b = true ∧ e = .returned (.tuple #[.pointer none, .int .i64 1]) ∧ W = W') ∨ (badB b = false ∧ ∃ M, e = .returned (.tuple #[.pointer (some ⟨M, 0, none⟩), .int .i64 0]) ∧ W.heap.size ≤ M ∧ MemAt W' M (fun q => W.heap.size ≤ q ∧ q < W'.heap.size) (emptyM b.toNat) ∧ Below W.heap.size W W') := by
  by_cases h1 : b < 0
  · have hb : badB b = true := by unfold badB; rw [decide_eq_true h1]; rfl
    have HB := Lib.hid hb
    clear hb
    go_enter Tryz.func6, Tryz.ntmps6
    go_wp2_with fail
    go_ret2
    exact Or.inl ⟨HB.out, rfl, rfl⟩
  · by_cases h2 : 256 < b
    · have hb : badB b = true := by unfold badB; rw [decide_eq_true h2]; simp
      have HB := Lib.hid hb
      clear hb
      go_enter Tryz.func6, Tryz.ntmps6
      go_wp2_with fail
      go_ret2
      exact Or.inl ⟨HB.out, rfl, rfl⟩
    · have hb : badB b = false := by unfold badB; rw [decide_eq_false h1, decide_eq_false h2]; rfl
      have HB := Lib.hid hb
      have hmm := @run_makeMap Tryz.prog
      have HN : Hid (0 ≤ b ∧ b ≤ 256) := Lib.hid (by omega)
      clear hb
      go_enter Tryz.func6, Tryz.ntmps6
      go_wp2_with fail
      go_ret2
      refine Or.inr ⟨HB.out, _, rfl, ?_, ?_, bAlloc (bAlloc (Below.refl _ _) _) _⟩
      · simp
      · refine ⟨W.heap.size, .map [], fun _ => 0, okm_empty _ (by have := HN.out; omega), ?_, (World.ownsMap_made _ _ _ _).alloc _, ⟨fun p _ => by simp [emptyM]; rfl, fun p _ => rfl, rfl⟩, by simp [emptyM], by simp [emptyM], ?_, ?_, by simp [emptyM], fun b hb => hb.2⟩
        · have h := BoxN.new (W.alloc (.map #[] 0)) #[.map (some W.heap.size), .int .i64 b] 60
          rw [size_alloc] at h
          rw [show ((emptyM b.toNat).bud : Int) = b by have := HN.out; show ((b.toNat : Nat) : Int) = b; omega]
          exact h
        · simp
        · simp; omega
theorem zeroP : (pgC (fun _ => 0) (fun _ => false)).toArray = Tryz.zeroCells67 := by kernel_rfl
theorem MemO.len {W : World} {M B : Nat} {D : DataW Unit} {pb : Nat → Nat} {F : Nat → Prop} {m : Mm} (h : MemO W M B D pb F m) (ty : TypeId) : (Builtin.len_ #[58] ty #[.map (some B)]).run Tryz.prog W = .ok (.int .i64 (m.pgs.length : Int)) W := by
  have := h.own.len Tryz.underlying58 ty
  rw [h.says.size] at this
  exact this
set_option maxRecDepth 100000 in
set_option maxHeartbeats 1000000 in
theorem map_any (W : World) (M : Nat) (F : Nat → Prop) (m : Mm) (h : MemAt W M F m) (f n : Int) (hf0 : 0 ≤ f) (hf1 : f < 18446744073709551616) (hn0 : -9223372036854775808 ≤ n) (hn1 : n < 9223372036854775808) :
    Calls Tryz.prog 8 #[.pointer (some ⟨M, 0, none⟩), .int .u64 f, .int .i64 n] W fun e W' => e = .returned (.int .i64 (mapF m f n).2) ∧ ∃ F', MemAt W' M F' (mapF m f n).1 ∧ (∀ b, F' b → F b ∨ W.heap.size ≤ b) ∧ KP W.heap.size F W W' := by
  obtain ⟨B, D, pb, h⟩ := h
  have HA := Lib.hid (areP_any f n W hf0 hf1 hn0 hn1)
  clear hn0 hn1
  cases hbad : badP f n with
  | true =>
    have hp : mapF m f n = (m, 1) := by unfold mapF; rw [if_pos hbad]
    rw [hp]
    rw [hbad] at HA
    have HM0 := Lib.hid h.at_
    clear hp hbad h
    go_enter Tryz.func8, Tryz.ntmps8
    go_wp2_with fail
    refine HA.out.mono ?_; rintro e W0 ⟨rfl, rfl⟩
    go_wp2_with fail
    go_ret
    exact ⟨rfl, F, HM0.out, fun b hb => Or.inl hb, KP.refl _ _ _⟩
  | false =>
    rw [hbad] at HA
    obtain ⟨g1, g2, g3, g4⟩ : 1 ≤ n ∧ n ≤ 65536 ∧ f < 65536 ∧ f + n ≤ 65536 := by
      unfold badP at hbad
      simp only [Bool.or_eq_false_iff, decide_eq_false_iff_not] at hbad
      omega
    obtain ⟨f, rfl⟩ := Int.eq_ofNat_of_zero_le hf0
    obtain ⟨n, rfl⟩ := Int.eq_ofNat_of_zero_le (show 0 ≤ n by omega)
    have hfn : f + n ≤ 65536 := by omega
    have hn : 0 < n := by omega
    clear hf0 hf1 g1 g2 g3 g4
    have HMP := Lib.hid (mapped_any W M B D pb F m h f n hfn)
    have hany := manyP_any m f n
    have hmle := manyP_le m f n
    obtain ⟨mp, hmp⟩ : ∃ z, manyP m f n = z := ⟨_, rfl⟩
    rw [hmp] at HMP hany hmle
    cases han : anyIn m f n with
    | true =>
      have hp : mapF m f n = (m, 32) := by unfold mapF; rw [if_neg (by rw [hbad]; decide), Int.toNat_natCast, Int.toNat_natCast, if_pos han]
      rw [hp]
      rw [han] at hany
      have hmp0 : (0 : Int) < (mp : Int) := by have := of_decide_eq_true hany; omega
      have HM0 := Lib.hid h.at_
      clear hp hbad h hany han hmp
      go_enter Tryz.func8, Tryz.ntmps8
      go_wp2_with fail
      refine HA.out.mono ?_; rintro e W0 ⟨rfl, rfl⟩
      go_wp2_with fail
      refine HMP.out.mono ?_; rintro e W0 ⟨rfl, rfl⟩
      go_wp2_with fail
      go_ret
      exact ⟨rfl, F, HM0.out, fun b hb => Or.inl hb, KP.refl _ _ _⟩
    | false =>
      rw [han] at hany
      have hmp0 : mp = 0 := by have := of_decide_eq_false hany; omega
      subst hmp0
      have hlen := fun q => (h.below (below_dN W q)).len 3
      have c0 : W.cell? ⟨M, 0, none⟩ = some (.map (some B)) := h.box.cell 0
      have c1 : W.cell? ⟨M, 1, none⟩ = some (.int .i64 (m.bud : Int)) := h.box.cell 1
      have hbud := h.ok.bud
      have hpl := h.ok.len
      obtain ⟨u, hu⟩ : ∃ z, m.pgs.length = z := ⟨_, rfl⟩
      obtain ⟨v, hv⟩ : ∃ z, m.bud = z := ⟨_, rfl⟩
      rw [hv] at c1 hbud
      simp only [hu] at hlen
      rw [hu, hv] at hpl
      have w0 : IntKind.i64.wrap ((u : Int) + (n : Int)) = (u : Int) + (n : Int) := by rw [IntKind.wrap_i64]; omega
      by_cases hb : v < u + n
      · have hp : mapF m f n = (m, 33) := by unfold mapF; rw [if_neg (by rw [hbad]; decide), Int.toNat_natCast, Int.toNat_natCast, if_neg (by rw [han]; decide), if_pos (by rw [hu, hv]; exact hb)]
        rw [hp]
        have hbi : (v : Int) < (u : Int) + (n : Int) := by omega
        have HM0 := Lib.hid h.at_
        clear hp hbad h hany han hmp hu hv hpl hbud
        go_enter Tryz.func8, Tryz.ntmps8
        go_wp2_with fail
        refine HA.out.mono ?_; rintro e W0 ⟨rfl, rfl⟩
        go_wp2_with fail
        refine HMP.out.mono ?_; rintro e W0 ⟨rfl, rfl⟩
        go_wp2_with fail
        go_quiet (fail)
        go_wp2_with fail
        go_ret
        exact ⟨rfl, F, HM0.out.below (below_dN _ _), fun b hb => Or.inl hb, KP.of_below _ (below_dN _ _)⟩
      · have hp : mapF m f n = (addN m f n, 0) := by unfold mapF; rw [if_neg (by rw [hbad]; decide), Int.toNat_natCast, Int.toNat_natCast, if_neg (by rw [han]; decide), if_neg (by rw [hu, hv]; exact hb)]
        rw [hp]
        have hbi : ¬ (v : Int) < (u : Int) + (n : Int) := by omega
        have w1 : IntKind.u64.wrap (n : Int) = (n : Int) := by rw [IntKind.wrap_u64]; omega
        have HNO : Hid (∀ i, i < n → f + i ∉ m.pgs) := Lib.hid (fun i hi e => by
          have : anyIn m f n = true := List.any_eq_true.2 ⟨i, List.mem_range.2 hi, decide_eq_true e⟩
          rw [han] at this
          cases this)
        have HBU : Hid (m.pgs.length + n ≤ m.bud) := Lib.hid (by rw [hu, hv]; omega)
        have HM0 := Lib.hid h
        clear hp hbad h hany han hmp hu hv hpl hbud
        go_enter Tryz.func8, Tryz.ntmps8
        go_wp2_with fail
        refine HA.out.mono ?_; rintro e W0 ⟨rfl, rfl⟩
        go_wp2_with fail
        refine HMP.out.mono ?_; rintro e W0 ⟨rfl, rfl⟩
        go_wp2_with fail
        go_quiet (fail)
        go_wp2_with fail
        go_loopw [7, 35] (fun _ iv wr => ∃ k : Nat, iv = .int .u64 k ∧ k ≤ n ∧ Hid (∃ D' pb' F', MemO wr M B D' pb' F' (addN m f k) ∧ (∀ b, F' b → F b ∨ W.heap.size ≤ b)) ∧ Hid (KP W.heap.size F W wr)) (fun _ iv _ => n - (intOf iv).toNat)
        case atStart => exact ⟨0, rfl, by omega, Lib.hid ⟨D, pb, F, HM0.out.below (below_dN _ _), fun b hb => Or.inl hb⟩, Lib.hid (KP.of_below _ (below_dN _ _))⟩
        case round =>
          obtain ⟨k, rfl, hk, HE, HK⟩ := hrel
          clear hlen c0 c1
          obtain ⟨D2, pb2, F2, hM, hF2⟩ := HE.out
          by_cases hlt : k < n
          · have hkk : (k : Int) < (n : Int) := by omega
            have c0 : wr.cell? ⟨M, 0, none⟩ = some (.map (some B)) := hM.box.cell 0
            have w2 : IntKind.u64.wrap ((f : Int) + (k : Int)) = (f : Int) + (k : Int) := by rw [IntKind.wrap_u64]; omega
            have w3 : IntKind.u64.wrap ((k : Int) + 1) = (k : Int) + 1 := by rw [IntKind.wrap_u64]; omega
            have hno : f + k ∉ (addN m f k).pgs := fun e => by
              rcases (addN_mem m f k _).1 e with q | q
              · omega
              · exact HNO.out k hlt q
            obtain ⟨W3, hrun, ⟨D3, hM3⟩, hk3⟩ := hM.add (f + k) hno (by omega) (by rw [(addN_len m f k).1, (addN_len m f k).2.1]; have := HBU.out; omega)
            rw [zeroP, show ((f + k : Nat) : Int) = (f : Int) + (k : Int) by omega] at hrun
            have HE3 : Hid (∃ D' pb' F', MemO W3 M B D' pb' F' (addN m f (k + 1)) ∧ (∀ b, F' b → F b ∨ W.heap.size ≤ b)) := Lib.hid ⟨_, _, _, hM3, fun b hb => by
              rcases hb with hb | hb
              · exact hF2 b hb
              · right; rw [hb]; exact HK.out.size⟩
            have HK3 : Hid (KP W.heap.size F W W3) := Lib.hid (HK.out.trans (hk3.mono HK.out.size (fun b hb e => by rw [show b = B from e]; exact HM0.out.fb)))
            clear hM hno hM3 hk3 hF2 HE HK
            go_wp2_with fail
            go_roundw
            case rel => exact ⟨k + 1, by go_num, by omega, HE3, HK3⟩
            case measure => simp [intOf]; omega
          · obtain rfl : k = n := by omega
            have HM3 : Hid (∃ F', MemAt wr M F' (addN m f k) ∧ ∀ b, F' b → F b ∨ W.heap.size ≤ b) := Lib.hid ⟨F2, hM.at_, hF2⟩
            clear hM hF2 HE
            go_wp2_with fail
            go_ret
            obtain ⟨F', h1, h2⟩ := HM3.out
            exact ⟨rfl, F', h1, h2, HK.out⟩
end Go.Proofs.YtjefkhieihigiaaGreat

namespace Go.Proofs.YtjefkhieihigiaaGreat
set_option linter.unusedVariables false
set_option linter.unusedSimpArgs false
open Go.Joins Go.ChangeShapes Go.WideShapes Go.ChangeAt Go.RowKit Go.Deep

end Go.Proofs.YtjefkhieihigiaaGreat

