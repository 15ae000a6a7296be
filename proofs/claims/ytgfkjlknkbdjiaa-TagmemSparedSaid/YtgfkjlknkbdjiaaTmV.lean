/- The document's memory: numbers are loaded and stored, bytes put and told: contracts. -/
import Derived.Test.YtgfkjlknkbdjiaaTmU
namespace Go.Proofs.Ytgfkjlknkbdjiaa
set_option linter.unusedVariables false
set_option linter.unusedSimpArgs false
open Go.Joins Go.ChangeShapes Go.WideShapes Go.ChangeAt Go.RowKit Go.Deep

set_option maxRecDepth 20000 in
theorem rbad_any (W : World) (R : Nat) (F : Nat → Prop) (m : Mm) (h : RmAt W R F m) (a : Nat) (n : Int) (ha : a < 18446744073709551616) :
    Calls Try.prog 56 #[.pointer (some ⟨R, 0, none⟩), .int .u64 (a : Int), .int .i64 n] W fun e W' => e = .returned (.int .i64 (numE m a n)) ∧ W = W' := by
  have HI := Lib.hid (rin_any W R F m h a ha)
  clear h
  by_cases hn : n = 1 ∨ n = 2 ∨ n = 4 ∨ n = 8
  · have h1 : ¬ (n ≠ 1 ∧ n ≠ 2 ∧ n ≠ 4 ∧ n ≠ 8) := by omega
    by_cases hal : (a : Int) % n = 0
    · have hp : numE m a n = if isIn m a then 0 else 30 := by unfold numE; rw [if_neg h1, if_neg (show ¬ ((a : Int) % n ≠ 0) from fun e => e hal)]
      rw [hp]
      clear hp h1
      cases hi : isIn m a with
      | true =>
        rw [hi] at HI
        rw [if_pos rfl]
        clear hi
        rcases hn with rfl | rfl | rfl | rfl
        all_goals
          go_enter Try.func56, Try.ntmps56
          go_wp2_with fail
          refine HI.out.mono ?_; rintro e W1 ⟨rfl, rfl⟩
          go_wp2_with fail
          go_ret
          exact ⟨rfl, rfl⟩
      | false =>
        rw [hi] at HI
        rw [if_neg (by decide)]
        clear hi
        rcases hn with rfl | rfl | rfl | rfl
        all_goals
          go_enter Try.func56, Try.ntmps56
          go_wp2_with fail
          refine HI.out.mono ?_; rintro e W1 ⟨rfl, rfl⟩
          go_wp2_with fail
          go_ret
          exact ⟨rfl, rfl⟩
    · have hp : numE m a n = 31 := by unfold numE; rw [if_neg h1, if_pos hal]
      rw [hp]
      clear hp h1 HI
      have hn1 : n ≠ 1 := fun e => hal (by rw [e]; exact Int.emod_one _)
      replace hn := hn.resolve_left hn1
      clear hn1
      rcases hn with rfl | rfl | rfl
      all_goals
        go_enter Try.func56, Try.ntmps56
        go_wp2_with fail
        go_ret
        exact ⟨rfl, rfl⟩
  · have hp : numE m a n = 1 := by unfold numE; rw [if_pos (by omega)]
    rw [hp]
    have n1 : ¬ n = 1 := fun e => hn (Or.inl e)
    have n2 : ¬ n = 2 := fun e => hn (Or.inr (Or.inl e))
    have n3 : ¬ n = 4 := fun e => hn (Or.inr (Or.inr (Or.inl e)))
    have n4 : ¬ n = 8 := fun e => hn (Or.inr (Or.inr (Or.inr e)))
    have m1 : (n != 1) = true := by simpa using n1
    have m2 : (n != 2) = true := by simpa using n2
    have m3 : (n != 4) = true := by simpa using n3
    have m4 : (n != 8) = true := by simpa using n4
    clear hp hn HI
    go_enter Try.func56, Try.ntmps56
    go_wp2_with fail
    go_ret
    exact ⟨rfl, rfl⟩
theorem numE_fits {m : Mm} (hk : Okm m) {a : Nat} {n : Int} (he : numE m a n = 0) : ∃ k : Nat, n = k ∧ 1 ≤ k ∧ k ≤ 8 ∧ a + k ≤ 16777216 ∧ ∀ i, i < k → (a + i) / 256 ∈ m.pgs := by
  rcases num_place (fun _ => 0) m a n with ⟨-, hn, hal, hin, -⟩ | ⟨h, -⟩
  · obtain ⟨k, rfl⟩ : ∃ k : Nat, n = k := ⟨n.toNat, by omega⟩
    rw [Int.toNat_natCast] at hal
    have hp := hk.pl _ hin
    have hkk : k = 1 ∨ k = 2 ∨ k = 4 ∨ k = 8 := by omega
    have hf : a % 256 + k ≤ 256 := by rcases hkk with rfl | rfl | rfl | rfl <;> omega
    exact ⟨k, rfl, by omega, by omega, by omega, fun i hi => by rw [show (a + i) / 256 = a / 256 by omega]; exact hin⟩
  · exact absurd he h
set_option maxRecDepth 20000 in
theorem rload_any (W : World) (R : Nat) (F : Nat → Prop) (m : Mm) (h : RmAt W R F m) (a : Nat) (n : Int) (ha : a < 18446744073709551616) :
    Calls Try.prog 46 #[.pointer (some ⟨R, 0, none⟩), .int .u64 (a : Int), .int .i64 n] W fun e W' => e = .returned (.tuple #[.int .u64 (loadF m a n).1, .int .i64 (loadF m a n).2]) ∧ Below W.heap.size W W' := by
  have HB := Lib.hid (rbad_any W R F m h a n ha)
  by_cases he : numE m a n = 0
  · obtain ⟨k, rfl, hk1, hk8, hs, -⟩ := numE_fits h.ok he
    have hl : loadF m a (k : Int) = (((ofB (manyB m a k) : Nat) : Int), 0) := by unfold loadF; rw [if_pos he, Int.toNat_natCast, Int.toNat_natCast]
    rw [hl]
    rw [he] at HB
    have HM := Lib.hid (rmany_any W R F m h a k hs (by omega))
    have HL := Lib.hid (manyB_lt h.ok a k)
    clear hl he h
    go_enter Try.func46, Try.ntmps46
    go_wp2_with fail
    refine HB.out.mono ?_; rintro e W1 ⟨rfl, rfl⟩
    go_wp2_with fail
    refine HM.out.mono ?_; rintro e W2 ⟨⟨ra, rc, rfl, hown⟩, hb⟩
    have HO := Lib.hid (rof_any ra k rc (manyB m a k) W2 (Rd.of_own hown) HL.out (by omega))
    have HB2 := Lib.hid hb
    clear hown hb
    go_wp2_with fail
    refine HO.out.mono ?_; rintro e W3 h3
    obtain ⟨rfl, hq⟩ := h3
    have HQ := Lib.hid hq
    clear hq
    go_wp2_with fail
    go_ret2
    first
      | (obtain ⟨nq, hq⟩ := HQ.out; subst hq; exact ⟨rfl, bTrans HB2.out (below_dN _ _)⟩)
      | (have hq := HQ.out; subst hq; exact ⟨rfl, HB2.out⟩)
  · have hl : loadF m a n = (0, numE m a n) := by unfold loadF; rw [if_neg he]
    rw [hl]
    obtain ⟨e1, he1⟩ : ∃ e, numE m a n = e := ⟨_, rfl⟩
    rw [he1] at HB he ⊢
    clear hl he1 h
    go_enter Try.func46, Try.ntmps46
    go_wp2_with fail
    refine HB.out.mono ?_; rintro e W1 ⟨rfl, rfl⟩
    go_wp2_with fail
    go_ret2
    exact ⟨rfl, Below.refl _ _⟩
set_option maxRecDepth 20000 in
theorem rstore_any (W : World) (R : Nat) (F : Nat → Prop) (m : Mm) (h : RmAt W R F m) (a : Nat) (n w : Int) (ha : a < 18446744073709551616) (hw0 : 0 ≤ w) (hw1 : w < 18446744073709551616) :
    Calls Try.prog 43 #[.pointer (some ⟨R, 0, none⟩), .int .u64 (a : Int), .int .i64 n, .int .u64 w] W fun e W' => e = .returned (.int .i64 (storeF m a n w).2) ∧ RmAt W' R (FN F W W') (storeF m a n w).1 ∧ KP W.heap.size F W W' := by
  have HB := Lib.hid (rbad_any W R F m h a n ha)
  by_cases he : numE m a n = 0
  · obtain ⟨k, rfl, hk1, hk8, hs, hin⟩ := numE_fits h.ok he
    have hl : storeF m a (k : Int) w = (wrL m a (littleN w.toNat k), 0) := by unfold storeF; rw [if_pos he, Int.toNat_natCast, Int.toNat_natCast]
    rw [hl]
    rw [he] at HB
    have HL := Lib.hid (rlittle_any w k W hw0 hw1)
    rw [littleZ_eq w k hk1 hk8, littleN_length] at HL
    have HM := Lib.hid h
    have HIN := Lib.hid hin
    clear hl he h hin
    go_enter Try.func43, Try.ntmps43
    go_wp2_with fail
    refine HB.out.mono ?_; rintro e W1 ⟨rfl, rfl⟩
    go_wp2_with fail
    refine HL.out.mono ?_; rintro e W2 ⟨v, rfl, hown, hb⟩
    obtain ⟨va, vc, rfl, -⟩ := own_slice hown
    have HWR := Lib.hid (rwrite_any W2 R F m (HM.out.below hb) a k vc va (littleN w.toNat k) (littleN_length _ _) HIN.out (by omega) (littleN_lt _ _) (Rd.of_own hown) (fun g off e hg => by
      rcases hown.2 with ⟨e0, e1⟩ | ⟨g', cap, cur, e1, hg', -⟩
      · omega
      · rw [Value.slice.injEq] at e1
        rw [e1.1] at e
        cases e
        have := HM.out.lt _ hg
        omega))
    have HKB := Lib.hid (KP.of_below F hb)
    have hsz := hb.size
    clear hown hb
    go_wp2_with fail
    refine HWR.out.mono ?_; rintro e W3 ⟨rfl, hm3, hk3⟩
    have HK3 : Hid (KP W.heap.size F W W3) := Lib.hid (HKB.out.trans (hk3.mono hsz (fun _ _ e => e)))
    have HM3 : Hid (RmAt W3 R (FN F W W3) (wrL m a (littleN w.toNat k))) := Lib.hid (hm3.mono (fun q hq => by
      rcases hq with hq | hq
      · exact Or.inl hq
      · exact Or.inr ⟨by omega, hq.2⟩) (fun q hq => by
      rcases hq with hq | hq
      · have h1 := HM.out.lt q hq; have h2 := HK3.out.size; omega
      · exact hq.2))
    clear hm3 hk3
    go_wp2_with fail
    go_ret
    exact ⟨rfl, HM3.out, HK3.out⟩
  · have hl : storeF m a n w = (m, numE m a n) := by unfold storeF; rw [if_neg he]
    rw [hl]
    obtain ⟨e1, he1⟩ : ∃ e, numE m a n = e := ⟨_, rfl⟩
    rw [he1] at HB he ⊢
    have HM : Hid (RmAt W R (FN F W W) m) := Lib.hid (h.mono (fun q hq => Or.inl hq) (fun q hq => by rcases hq with hq | hq; exact h.lt q hq; exact hq.2))
    clear hl he1 h
    go_enter Try.func43, Try.ntmps43
    go_wp2_with fail
    refine HB.out.mono ?_; rintro e W1 ⟨rfl, rfl⟩
    go_wp2_with fail
    go_ret
    exact ⟨rfl, HM.out, KP.refl _ _ _⟩
set_option maxRecDepth 20000 in
theorem rputB_any (W : World) (R : Nat) (F : Nat → Prop) (m : Mm) (h : RmAt W R F m) (x n c : Nat) (sa : Option Addr) (l : List Nat) (hx : x < 18446744073709551616) (hln : l.length = n) (hn : n ≤ 65536) (hbl : ∀ b ∈ l, b < 256) (hs : Rd W sa n (u8s l)) (hne : ∀ g off, sa = some ⟨g, off, none⟩ → ¬ F g) :
    Calls Try.prog 45 #[.pointer (some ⟨R, 0, none⟩), .int .u64 (x : Int), .slice sa n c] W fun e W' => e = .returned (.int .i64 (putF m x l).2) ∧ RmAt W' R (FN F W W') (putF m x l).1 ∧ KP W.heap.size F W W' := by
  have HA := Lib.hid (rall_any W R F m h x n hx hn)
  cases hall : allB m x n with
  | true =>
    have hp : putF m x l = (wrL m x l, 0) := by unfold putF; rw [hln, Int.toNat_natCast, if_pos hall]
    rw [hp]
    rw [hall] at HA
    have HW := Lib.hid (rwrite_any W R F m h x n c sa l hln (fun i hi => of_decide_eq_true (List.all_eq_true.1 hall i (List.mem_range.2 hi))) (by omega) hbl hs hne)
    clear hp hall h hln hbl hs hne
    go_enter Try.func45, Try.ntmps45
    go_wp2_with fail
    refine HA.out.mono ?_; rintro e W1 ⟨rfl, rfl⟩
    go_wp2_with fail
    refine HW.out.mono ?_; rintro e W3 ⟨rfl, hm3, hk3⟩
    have HM3 := Lib.hid hm3
    have HK3 := Lib.hid hk3
    clear hm3 hk3
    go_wp2_with fail
    go_ret
    exact ⟨rfl, HM3.out, HK3.out⟩
  | false =>
    have hp : putF m x l = (m, 30) := by unfold putF; rw [hln, Int.toNat_natCast, if_neg (by rw [hall]; decide)]
    rw [hp]
    rw [hall] at HA
    have HM : Hid (RmAt W R (FN F W W) m) := Lib.hid (h.mono (fun q hq => Or.inl hq) (fun q hq => by rcases hq with hq | hq; exact h.lt q hq; exact hq.2))
    clear hp hall h hln hbl hs hne
    go_enter Try.func45, Try.ntmps45
    go_wp2_with fail
    refine HA.out.mono ?_; rintro e W1 ⟨rfl, rfl⟩
    go_wp2_with fail
    go_ret
    exact ⟨rfl, HM.out, KP.refl _ _ _⟩
set_option maxRecDepth 100000 in
theorem rbytes_any (W : World) (R : Nat) (F : Nat → Prop) (m : Mm) (h : RmAt W R F m) (x : Nat) (n : Int) (hx : x < 18446744073709551616) :
    Calls Try.prog 48 #[.pointer (some ⟨R, 0, none⟩), .int .u64 (x : Int), .int .i64 n] W fun e W' => (∃ ra rc, e = .returned (.slice ra (bytesF m x n).length rc) ∧ W'.ownsRow W.heap.size 5 1 (.slice ra (bytesF m x n).length rc) (bytesF m x n).length (u8s (bytesF m x n))) ∧ Below W.heap.size W W' := by
  by_cases h1 : n < 1
  · have hb : bytesF m x n = [] := by unfold bytesF; rw [if_pos (Or.inl h1)]
    rw [hb]
    clear hb
    go_enter Try.func48, Try.ntmps48
    go_wp2_with fail
    go_ret
    exact ⟨⟨_, _, rfl, World.ownsRow_nil _ _ _ _⟩, Below.refl _ _⟩
  · by_cases h2 : 65536 < n
    · have hb : bytesF m x n = [] := by unfold bytesF; rw [if_pos (Or.inr h2)]
      rw [hb]
      clear hb
      go_enter Try.func48, Try.ntmps48
      go_wp2_with fail
      go_ret
      exact ⟨⟨_, _, rfl, World.ownsRow_nil _ _ _ _⟩, Below.refl _ _⟩
    · obtain ⟨n, rfl⟩ : ∃ k : Nat, n = k := ⟨n.toNat, by omega⟩
      have HA := Lib.hid (rall_any W R F m h x n hx (by omega))
      cases hall : allB m x n with
      | true =>
        have hb : bytesF m x n = manyB m x n := by unfold bytesF; rw [if_neg (by omega), Int.toNat_natCast, Int.toNat_natCast, if_pos hall]
        rw [hb, manyB_len]
        rw [hall] at HA
        have hsm := allB_small h.ok (by omega) hall
        have HM := Lib.hid (rmany_any W R F m h x n hsm (by omega))
        clear hb hall h
        go_enter Try.func48, Try.ntmps48
        go_wp2_with fail
        refine HA.out.mono ?_; rintro e W1 ⟨rfl, rfl⟩
        go_wp2_with fail
        refine HM.out.mono ?_; rintro e W3 ⟨⟨ra, rc, rfl, ho⟩, hb⟩
        have HO := Lib.hid ho
        have HB := Lib.hid hb
        clear ho hb
        go_wp2_with fail
        go_ret
        exact ⟨⟨_, _, rfl, HO.out⟩, HB.out⟩
      | false =>
        have hb : bytesF m x n = [] := by unfold bytesF; rw [if_neg (by omega), Int.toNat_natCast, Int.toNat_natCast, if_neg (by rw [hall]; decide)]
        rw [hb]
        rw [hall] at HA
        clear hb hall h
        go_enter Try.func48, Try.ntmps48
        go_wp2_with fail
        refine HA.out.mono ?_; rintro e W1 ⟨rfl, rfl⟩
        go_wp2_with fail
        go_ret
        exact ⟨⟨_, _, rfl, World.ownsRow_nil _ _ _ _⟩, Below.refl _ _⟩
end Go.Proofs.Ytgfkjlknkbdjiaa
