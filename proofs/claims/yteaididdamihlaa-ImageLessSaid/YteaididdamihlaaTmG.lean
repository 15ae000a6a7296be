/- The program's memory: bytes are put, and read: contracts. -/
import Derived.Test.YteaididdamihlaaTmF
namespace Go.Proofs.Yteaididdamihlaa
set_option linter.unusedVariables false
set_option linter.unusedSimpArgs false
open Go.Joins Go.ChangeShapes Go.WideShapes Go.ChangeAt Go.RowKit Go.Deep

theorem allB_append (m : Mm) (a n k : Nat) : allB m a (n + k) = (allB m a n && allB m (a + n) k) := by
  rw [Bool.eq_iff_iff]
  unfold allB
  simp only [Bool.and_eq_true, List.all_eq_true, List.mem_range, decide_eq_true_eq]
  constructor
  · intro h
    exact ⟨fun i hi => h i (by omega), fun i hi => by have := h (n + i) (by omega); rwa [Nat.add_assoc]⟩
  · rintro ⟨h1, h2⟩ i hi
    by_cases hc : i < n
    · exact h1 i hc
    · have := h2 (i - n) (by omega)
      rwa [show a + n + (i - n) = a + i by omega] at this
theorem allB_wrL (m : Mm) (a n x : Nat) (l : List Nat) : allB (wrL m x l) a n = allB m a n := by
  unfold allB
  rw [(wrL_pgs m x l).1]
theorem manyB_add (m : Mm) (a n k : Nat) : manyB m a (n + k) = manyB m a n ++ manyB m (a + n) k := by
  unfold manyB
  rw [List.range_add, List.map_append, List.map_map]
  congr 1
  apply List.map_congr_left
  intro i _
  simp [Nat.add_assoc]
theorem infoU8m : (Try.prog.info? 5).map (fun i => (i.zero, i.size, i.bytes)) = some (some (.int .u8 0), 1, 1) := by kernel_rfl
theorem u8s_append (x y : List Nat) : u8s (x ++ y) = u8s x ++ u8s y := by simp [u8s]
theorem grownB {w w1 w2 : World} {row : Option Nat} (h : Below w.heap.size w w1) (hg : w1.grownBy w2 row) (hr : ∀ q, row = some q → w.heap.size ≤ q) : Below w.heap.size w w2 :=
  h.trans ⟨hg.os, hg.tape, hg.output, hg.size, fun b hb => hg.block b (Nat.lt_of_lt_of_le hb h.size) (fun e => by have := hr b e.symm; omega)⟩
theorem infoU8i : ∃ i, Try.prog.info? 5 = some i ∧ i.zero = some (.int .u8 0) ∧ i.size = 1 ∧ i.bytes = 1 := by
  have h := infoU8m
  cases hq : Try.prog.info? 5 with
  | none => rw [hq] at h; simp at h
  | some i => rw [hq] at h; simp only [Option.map_some, Option.some.injEq, Prod.mk.injEq] at h; exact ⟨i, rfl, h.1, h.2.1, h.2.2⟩
set_option maxRecDepth 100000 in
theorem bytes_any (W : World) (M B : Nat) (D : DataW Unit) (pb : Nat → Nat) (F : Nat → Prop) (m : Mm) (h : MemO W M B D pb F m) (a : Nat) (n : Int) (ha : a < 18446744073709551616) (hn0 : -9223372036854775808 ≤ n) (hn1 : n < 9223372036854775808) :
    Calls Try.prog 19 #[.pointer (some ⟨M, 0, none⟩), .int .u64 (a : Int), .int .i64 n] W fun e W' => (∃ ra rc, e = .returned (.slice ra (bytesF m a n).length rc) ∧ W'.ownsRow W.heap.size 5 1 (.slice ra (bytesF m a n).length rc) (bytesF m a n).length (u8s (bytesF m a n))) ∧ Below W.heap.size W W' := by
  by_cases h1 : n < 1
  · have hb : bytesF m a n = [] := by unfold bytesF; rw [if_pos (Or.inl h1)]
    rw [hb]
    clear hb
    go_enter Try.func19, Try.ntmps19
    go_wp2_with fail
    go_ret
    exact ⟨⟨_, _, rfl, World.ownsRow_nil _ _ _ _⟩, Below.refl _ _⟩
  · by_cases h2 : 65536 < n
    · have hb : bytesF m a n = [] := by unfold bytesF; rw [if_pos (Or.inr h2)]
      rw [hb]
      clear hb
      go_enter Try.func19, Try.ntmps19
      go_wp2_with fail
      go_ret
      exact ⟨⟨_, _, rfl, World.ownsRow_nil _ _ _ _⟩, Below.refl _ _⟩
    · obtain ⟨n, rfl⟩ : ∃ k : Nat, n = k := ⟨n.toNat, by omega⟩
      have h1n : 1 ≤ n := by omega
      have h2n : n ≤ 65536 := by omega
      clear hn0 hn1
      have HH := Lib.hid (has_any W M B D pb F m h a n ha (by omega))
      by_cases hall : allB m a n = true
      · have hb : bytesF m a n = manyB m a n := by unfold bytesF; rw [if_neg (by omega), Int.toNat_natCast, Int.toNat_natCast, if_pos hall]
        rw [hb, manyB_len]
        rw [hall] at HH
        have hsm := allB_small h.ok (by omega) hall
        have HALL := Lib.hid hall
        have HM := Lib.hid h
        obtain ⟨i0, hi0, hi1, hi2, hi3⟩ := infoU8i
        obtain ⟨W1, hmk, hown, hgr⟩ := run_make_own (P := Try.prog) W W.heap.size 38 5 i0 (.int .u8 0) 1 Try.underlying38 hi0 hi1 hi2 .i64 .i64 n (by rw [hi3]; omega) (by unfold maxLen; omega) (Nat.le_refl _)
        have HO := Lib.hid hown
        have HB : Hid (Below W.heap.size W W1) := Lib.hid ⟨hgr.os, hgr.tape, hgr.output, hgr.size, fun b hb => hgr.block b hb (by simp)⟩
        clear hb hall h hown hgr hi0 hi1 hi2 hi3
        go_enter Try.func19, Try.ntmps19
        go_wp2_with fail
        refine HH.out.mono ?_; rintro e W0 ⟨rfl, rfl⟩
        go_wp2_with fail
        clear hmk
        go_loopw [1, 7, 8, 9] (fun av bv _ _ wr => ∃ k : Nat, av = .int .u64 ((a + k : Nat) : Int) ∧ k ≤ n ∧ Hid (wr.ownsRow W.heap.size 5 1 bv k (u8s (manyB m a k))) ∧ Hid (Below W.heap.size W wr)) (fun av _ _ _ _ => a + n - (intOf av).toNat)
        case atStart => exact ⟨0, rfl, by omega, HO, HB⟩
        case round =>
          clear HO HB
          obtain ⟨k, rfl, hk, HO, HB⟩ := hrel
          obtain ⟨ra, rc, rfl, hrc⟩ := own_slice HO.out
          by_cases hlt : k < n
          · obtain ⟨d, hd⟩ : ∃ d, n = k + d := ⟨n - k, by omega⟩
            obtain ⟨x, hx⟩ : ∃ x, a + k = x := ⟨_, rfl⟩
            obtain ⟨i, hi⟩ : ∃ i, x % 256 = i := ⟨_, rfl⟩
            obtain ⟨r, hr⟩ : ∃ r, i + r = 256 := ⟨256 - i, by omega⟩
            have hin : x / 256 ∈ m.pgs := by
              have h3 := (allB_iff m a n (by omega)).1 HALL.out (x / 256) (by omega) (by omega)
              exact h3
            have HP := Lib.hid (fun W' (hb : Below W.heap.size W W') => pageOf_any W' M B D pb F m (HM.out.below hb) x (by omega))
            have hpp : pgP pb m (x / 256) = some ⟨pb (x / 256), 0, none⟩ := if_pos hin
            rw [hpp] at HP
            rw [hx]
            have kk : (k : Int) < (n : Int) := by omega
            have e1 : (x : Int) % 256 = (i : Int) := by omega
            have w0 : IntKind.i64.wrap (i : Int) = (i : Int) := IntWalk.i64_in _ (by omega)
            have w1 : IntKind.i64.wrap ((n : Int) - (k : Int)) = (d : Int) := by rw [IntKind.wrap_i64]; omega
            have w2 : IntKind.i64.wrap (256 - (i : Int)) = (r : Int) := by rw [IntKind.wrap_i64]; omega
            rcases Nat.lt_or_ge r d with hle | hle
            · have hcmp : (r : Int) < (d : Int) := by omega
              have hcmp2 : ¬ (d : Int) ≤ (r : Int) := by omega
              have w3 : IntKind.i64.wrap ((i : Int) + (r : Int)) = (i : Int) + (r : Int) := by rw [IntKind.wrap_i64]; omega
              have w4 : IntKind.u64.wrap (r : Int) = (r : Int) := by rw [IntKind.wrap_u64]; omega
              have w5 : IntKind.u64.wrap ((x : Int) + (r : Int)) = (x : Int) + (r : Int) := by rw [IntKind.wrap_u64]; omega
              have hsl := fun w => run_slA w (pb (x / 256)) i r (by omega) (by omega)
              have hrd : Rd wr (some ⟨pb (x / 256), i, none⟩) r (u8s (manyB m x r)) := by rw [← hi]; exact (HM.out.below HB.out).rdB x r hin (by omega)
              have HRD := Lib.hid hrd
              have HX := Lib.hid hx
              have HD := Lib.hid hd
              have HQD : Hid (0 < r ∧ k + r ≤ n) := Lib.hid (by omega)
              have hsz := HB.out.size
              clear hpp hin hrd hi hx hd hr hle hk
              go_wp2_with fail
              refine (HP.out _ HB.out).mono ?_; rintro e W2 ⟨rfl, rfl⟩
              go_wp2_with (at_builtin; refine wpList_appE 38 5 (.int .u8 0) 1 1 Try.underlying38 infoU8m rfl (by decide) (by decide) _ rfl _ _ rfl W.heap.size (.slice ra k rc) k (u8s (manyB m a k)) rfl HO.out (some ⟨pb (x / 256), i, none⟩) r (256 - i) (u8s (manyB m x r)) rfl (by rw [Nat.mul_one]; exact HRD.out) (u8s_one _) (by have := HQD.out; omega) hsz ?_; intro a3 c3 W3 hown3 hgrow3 hat3)
              have HO3 := Lib.hid (show W3.ownsRow W.heap.size 5 1 (.slice a3 (k + r) c3) (k + r) (u8s (manyB m a (k + r))) by rw [manyB_add, HX.out, u8s_append]; exact hown3)
              have HB3 := Lib.hid (grownB HB.out hgrow3 (fun r e => (HO.out.lt r e).1))
              clear hown3 hgrow3 hat3
              go_wp2_with fail
              go_roundw
              case rel => exact ⟨k + r, by rw [show ((a + (k + r) : Nat) : Int) = (x : Int) + (r : Int) by have := HX.out; omega], HQD.out.2, HO3, HB3⟩
              case measure => have := HQD.out; have := HX.out; simp [intOf]; omega
            · have hcmp : ¬ (r : Int) < (d : Int) := by omega
              have hcmp2 : (d : Int) ≤ (r : Int) := by omega
              have w3 : IntKind.i64.wrap ((i : Int) + (d : Int)) = (i : Int) + (d : Int) := by rw [IntKind.wrap_i64]; omega
              have w4 : IntKind.u64.wrap (d : Int) = (d : Int) := by rw [IntKind.wrap_u64]; omega
              have w5 : IntKind.u64.wrap ((x : Int) + (d : Int)) = (x : Int) + (d : Int) := by rw [IntKind.wrap_u64]; omega
              have hsl := fun w => run_slA w (pb (x / 256)) i d (by omega) (by omega)
              have hrd : Rd wr (some ⟨pb (x / 256), i, none⟩) d (u8s (manyB m x d)) := by rw [← hi]; exact (HM.out.below HB.out).rdB x d hin (by omega)
              have HRD := Lib.hid hrd
              have HX := Lib.hid hx
              have HD := Lib.hid hd
              have HQD : Hid (0 < d ∧ k + d ≤ n) := Lib.hid (by omega)
              have hsz := HB.out.size
              clear hpp hin hrd hi hx hd hr hle hk
              go_wp2_with fail
              refine (HP.out _ HB.out).mono ?_; rintro e W2 ⟨rfl, rfl⟩
              go_wp2_with (at_builtin; refine wpList_appE 38 5 (.int .u8 0) 1 1 Try.underlying38 infoU8m rfl (by decide) (by decide) _ rfl _ _ rfl W.heap.size (.slice ra k rc) k (u8s (manyB m a k)) rfl HO.out (some ⟨pb (x / 256), i, none⟩) d (256 - i) (u8s (manyB m x d)) rfl (by rw [Nat.mul_one]; exact HRD.out) (u8s_one _) (by have := HQD.out; omega) hsz ?_; intro a3 c3 W3 hown3 hgrow3 hat3)
              have HO3 := Lib.hid (show W3.ownsRow W.heap.size 5 1 (.slice a3 (k + d) c3) (k + d) (u8s (manyB m a (k + d))) by rw [manyB_add, HX.out, u8s_append]; exact hown3)
              have HB3 := Lib.hid (grownB HB.out hgrow3 (fun r e => (HO.out.lt r e).1))
              clear hown3 hgrow3 hat3
              go_wp2_with fail
              go_roundw
              case rel => exact ⟨k + d, by rw [show ((a + (k + d) : Nat) : Int) = (x : Int) + (d : Int) by have := HX.out; omega], HQD.out.2, HO3, HB3⟩
              case measure => have := HQD.out; have := HX.out; simp [intOf]; omega
          · obtain rfl : k = n := by omega
            go_wp2_with fail
            go_ret
            exact ⟨⟨_, _, rfl, HO.out⟩, HB.out⟩
      · have hb : bytesF m a n = [] := by unfold bytesF; rw [if_neg (by omega), Int.toNat_natCast, Int.toNat_natCast, if_neg hall]
        rw [hb]
        rw [Bool.eq_false_iff.2 hall] at HH
        clear hb hall h
        go_enter Try.func19, Try.ntmps19
        go_wp2_with fail
        refine HH.out.mono ?_; rintro e W0 ⟨rfl, rfl⟩
        go_wp2_with fail
        go_ret
        exact ⟨⟨_, _, rfl, World.ownsRow_nil _ _ _ _⟩, Below.refl _ _⟩
end Go.Proofs.Yteaididdamihlaa
