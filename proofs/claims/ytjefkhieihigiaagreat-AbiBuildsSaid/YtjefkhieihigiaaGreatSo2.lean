/- Merged: SoE SoF SoG SoH. -/
import Derived.Test.YtjefkhieihigiaaGreatSo1
import Derived.Deep.RegionWith
import Derived.Deep.Cut
import Derived.Test.YtjefkhieihigiaaGreatShelf
import Derived.Laws.Bits64
import Derived.Laws.Bits64b
namespace Go.Proofs.YtjefkhieihigiaaGreat
set_option linter.unusedVariables false
set_option linter.unusedSimpArgs false
open Go.Joins Go.ChangeShapes Go.WideShapes Go.ChangeAt Go.RowKit Go.Deep

/-- .. and a counter in a new block -/
structure Cw (w0 : World) (g cap : Nat) (e : TypeId) (d : Array Int) (c s : Nat) (W : World) : Prop where
  sw : Sw w0 g cap e d W
  cl : w0.heap.size ≤ c
  cb : BoxN W c #[.int .i64 s]
theorem Cw.drewN {w0 W : World} {g cap c s : Nat} {e : TypeId} {d : Array Int} (h : Cw w0 g cap e d c s W) (n : Nat) : Cw w0 g cap e d c s (W.drewN n) := ⟨h.sw.drewN n, h.cl, h.cb⟩
theorem Cw.bump {w0 W : World} {g cap c s : Nat} {e : TypeId} {d : Array Int} (h : Cw w0 g cap e d c s W) (t : Nat) : Cw w0 g cap e d c t (W.setCell ⟨c, 0, none⟩ (.int .i64 (t : Int))) := ⟨h.sw.setNew c 0 h.cl _, h.cl, h.cb.set 0 (.int .i64 (t : Int))⟩
set_option maxRecDepth 100000 in
set_option maxHeartbeats 1000000 in
theorem order2_any (w0 : World) (g cap : Nat) (e : TypeId) (d : Array Int) (c s : Nat) (w : World) (S : Cw w0 g cap e d c s w) (a b : Nat) (ha : a < d.size) (hb : b < d.size) (hsz : d.size < 100000) (hs : s ≤ 100) :
    Calls Tryz.prog 106 #[.slice (some ⟨g, 0, none⟩) d.size cap, .int .i64 a, .int .i64 b, .pointer (some ⟨c, 0, none⟩)] w fun e' w' => ∃ x y t : Nat, e' = .returned (.tuple #[.int .i64 x, .int .i64 y]) ∧ ((x = a ∧ y = b) ∨ (x = b ∧ y = a)) ∧ t ≤ s + 1 ∧ Cw w0 g cap e d c t w' := by
  have e0 : w.cell? ⟨g, a, none⟩ = some (.int .u64 d[a]!) := S.sw.c a ha
  have e1 : w.cell? ⟨g, b, none⟩ = some (.int .u64 d[b]!) := S.sw.c b hb
  have S0 := Lib.hid S
  obtain ⟨N, hN⟩ : ∃ N, d.size = N := ⟨_, rfl⟩
  rw [hN] at ha hb hsz
  rw [hN]
  obtain ⟨x, hx⟩ : ∃ x, d[a]! = x := ⟨_, rfl⟩
  obtain ⟨y, hy⟩ : ∃ y, d[b]! = y := ⟨_, rfl⟩
  rw [hx] at e0
  rw [hy] at e1
  clear S hN hx hy
  go_enter Tryz.func106, Tryz.ntmps106
  go_wp2
  go_big_quiet (first | (go_at_call 94; refine Calls.quiet_of_same (less_any _ _ _)))
  have S1 := Lib.hid (S0.out.drewN nq)
  clear S0 e0 e1
  generalize w.drewN nq = W1 at S1 ⊢
  clear nq
  have c0 : W1.cell? ⟨c, 0, none⟩ = some (.int .i64 s) := S1.out.cb.cell 0
  have f0 : W1.frozen? ⟨c, 0, none⟩ = false := S1.out.cb.frozen 0
  go_wp2_with fail
  · go_ret2
    exact ⟨b, a, s + 1, rfl, Or.inr ⟨rfl, rfl⟩, Nat.le_refl _, S1.out.bump (s + 1)⟩
  · go_ret2
    exact ⟨a, b, s, rfl, Or.inl ⟨rfl, rfl⟩, by omega, S1.out⟩
theorem median_any (w0 : World) (g cap : Nat) (e : TypeId) (d : Array Int) (c s : Nat) (w : World) (S : Cw w0 g cap e d c s w) (p q r : Nat) (hp : p < d.size) (hq : q < d.size) (hr : r < d.size) (hsz : d.size < 100000) (hs : s ≤ 50) :
    Calls Tryz.prog 104 #[.slice (some ⟨g, 0, none⟩) d.size cap, .int .i64 p, .int .i64 q, .int .i64 r, .pointer (some ⟨c, 0, none⟩)] w fun e' w' => ∃ x t : Nat, e' = .returned (.int .i64 x) ∧ (x = p ∨ x = q ∨ x = r) ∧ t ≤ s + 3 ∧ Cw w0 g cap e d c t w' := by
  have H := Lib.hid (fun (a b s : Nat) (w : World) (S : Cw w0 g cap e d c s w) (ha : a < d.size) (hb : b < d.size) (hs : s ≤ 100) => order2_any w0 g cap e d c s w S a b ha hb hsz hs)
  have S0 := Lib.hid S
  obtain ⟨N, hN⟩ : ∃ N, d.size = N := ⟨_, rfl⟩
  rw [hN] at hp hq hr hsz H
  rw [hN]
  clear S hN
  have H1 := Lib.hid (H.out p q s w S0.out hp hq (by omega))
  go_enter Tryz.func104, Tryz.ntmps104
  go_wp2_with fail
  refine H1.out.mono ?_
  rintro e1 W1 ⟨x1, y1, t1, rfl, hxy1, ht1, S1⟩
  have H2 := Lib.hid (H.out y1 r t1 W1 S1 (by omega) hr (by omega))
  clear S1
  go_wp2_with fail
  refine H2.out.mono ?_
  rintro e2 W2 ⟨x2, y2, t2, rfl, hxy2, ht2, S2⟩
  have H3 := Lib.hid (H.out x1 x2 t2 W2 S2 (by omega) (by omega) (by omega))
  clear S2
  go_wp2_with fail
  refine H3.out.mono ?_
  rintro e3 W3 ⟨x3, y3, t3, rfl, hxy3, ht3, S3⟩
  go_wp2_with fail
  go_ret
  exact ⟨y3, t3, rfl, by omega, by omega, S3⟩
theorem adj_any (w0 : World) (g cap : Nat) (e : TypeId) (d : Array Int) (c s : Nat) (w : World) (S : Cw w0 g cap e d c s w) (p : Nat) (h1 : 1 ≤ p) (hp : p + 1 < d.size) (hsz : d.size < 100000) (hs : s ≤ 50) :
    Calls Tryz.prog 103 #[.slice (some ⟨g, 0, none⟩) d.size cap, .int .i64 p, .pointer (some ⟨c, 0, none⟩)] w fun e' w' => ∃ x t : Nat, e' = .returned (.int .i64 x) ∧ p ≤ x + 1 ∧ x ≤ p + 1 ∧ t ≤ s + 3 ∧ Cw w0 g cap e d c t w' := by
  obtain ⟨q, rfl⟩ : ∃ q, p = q + 1 := ⟨p - 1, by omega⟩
  have H := Lib.hid (median_any w0 g cap e d c s w S q (q + 1) (q + 1 + 1) (by omega) (by omega) (by omega) hsz hs)
  obtain ⟨N, hN⟩ : ∃ N, d.size = N := ⟨_, rfl⟩
  rw [hN] at hp hsz H
  rw [hN]
  have hi1 : ((q + 1 : Nat) : Int) - 1 = (q : Int) := by omega
  have hi2 : (q : Int) + 1 - 1 = (q : Int) := by omega
  clear S hN
  go_enter Tryz.func103, Tryz.ntmps103
  go_wp2_with fail
  refine H.out.mono ?_
  rintro e1 W1 ⟨x, t, rfl, hx, ht, S1⟩
  go_wp2_with fail
  go_ret
  exact ⟨x, t, rfl, by omega, by omega, ht, S1⟩
end Go.Proofs.YtjefkhieihigiaaGreat

namespace Go.Proofs.YtjefkhieihigiaaGreat
set_option linter.unusedVariables false
set_option linter.unusedSimpArgs false
open Go.Joins Go.ChangeShapes Go.WideShapes Go.ChangeAt Go.RowKit Go.Deep

set_option maxRecDepth 100000 in
set_option maxHeartbeats 2000000 in
theorem pivot_any (w0 : World) (g cap : Nat) (e : TypeId) (d : Array Int) (w : World) (S : Sw w0 g cap e d w) (a L : Nat) (hL : 0 < L) (hb : a + L ≤ d.size) (hsz : d.size < 100000) :
    Calls Tryz.prog 91 #[.slice (some ⟨g, 0, none⟩) d.size cap, .int .i64 a, .int .i64 ((a + L : Nat) : Int)] w fun e' w' => ∃ p h : Nat, e' = .returned (.tuple #[.int .i64 p, .int .i64 h]) ∧ a ≤ p ∧ p < a + L ∧ h ≤ 2 ∧ Sw w0 g cap e d w' := by
  have HA := Lib.hid (fun (s : Nat) (w : World) (S : ∃ c, Cw w0 g cap e d c s w) => S)
  have HADJ := Lib.hid (fun (c s : Nat) (w : World) (S : Cw w0 g cap e d c s w) (p : Nat) (h1 : 1 ≤ p) (hp : p + 1 < d.size) (hs : s ≤ 50) => adj_any w0 g cap e d c s w S p h1 hp hsz hs)
  have HMED := Lib.hid (fun (c s : Nat) (w : World) (S : Cw w0 g cap e d c s w) (p q r : Nat) (hp : p < d.size) (hq : q < d.size) (hr : r < d.size) (hs : s ≤ 50) => median_any w0 g cap e d c s w S p q r hp hq hr hsz hs)
  have S0 := Lib.hid S
  have HC0 : Hid (Cw w0 g cap e d w.heap.size 0 (w.alloc (.cells #[.int .i64 0] 3))) := Lib.hid ⟨S.alloc _, S.kp.size, BoxN.new w _ _⟩
  obtain ⟨N, hN⟩ : ∃ N, d.size = N := ⟨_, rfl⟩
  rw [hN] at hb hsz HADJ HMED
  rw [hN]
  obtain ⟨Q, hQ⟩ : ∃ Q, L / 4 = Q := ⟨_, rfl⟩
  have hl1 : ((a + L : Nat) : Int) - (a : Int) = (L : Int) := by omega
  have hl2 : (a : Int) + (L : Int) - (a : Int) = (L : Int) := by omega
  have q1 : (L : Int).tdiv 4 = (Q : Int) := by rw [Int.tdiv_eq_ediv_of_nonneg (by omega)]; omega
  have q2 : (L : Int) / 4 = (Q : Int) := by omega
  have q3 : 4 * Q ≤ L := by omega
  have q4 : L < 4 * Q + 4 := by omega
  clear S hN hQ HA S0
  obtain ⟨c, hc⟩ : ∃ c, w.heap.size = c := ⟨_, rfl⟩
  rw [hc] at HC0
  go_enter Tryz.func91, Tryz.ntmps91
  go_upto_region 3 with fail
  obtain ⟨W1, hW1⟩ : ∃ W1, w.alloc (.cells #[.int .i64 0] 3) = W1 := ⟨_, rfl⟩
  rw [hW1] at HC0 ⊢
  clear hc hW1
  by_cases h8 : L < 8
  · have h8z : (L : Int) < 8 := by omega
    have c0 : W1.cell? ⟨c, 0, none⟩ = some (.int .i64 0) := HC0.out.cb.cell 0
    go_wp2_with fail
    go_ret2
    exact ⟨a + Q * 2, 1, by first | rfl | (congr 3; omega), by omega, by omega, by omega, HC0.out.sw⟩
  · have h8z : ¬ (L : Int) < 8 := by omega
    by_cases h50 : L < 50
    · have h50z : (L : Int) < 50 := by omega
      have HM := Lib.hid (HMED.out c 0 W1 HC0.out (a + Q * 1) (a + Q * 2) (a + Q * 3) (by omega) (by omega) (by omega) (by omega))
      rw [show ((a + Q * 1 : Nat) : Int) = (a : Int) + (Q : Int) by omega, show ((a + Q * 2 : Nat) : Int) = (a : Int) + (Q : Int) * 2 by omega, show ((a + Q * 3 : Nat) : Int) = (a : Int) + (Q : Int) * 3 by omega] at HM
      go_wp2_with fail
      with_reducible refine HM.out.mono ?_
      rintro e1 W2 ⟨p, s, rfl, hp, hs, S2⟩
      have S3 := Lib.hid S2
      clear S2 HC0 HM HMED HADJ
      have c0 : W2.cell? ⟨c, 0, none⟩ = some (.int .i64 s) := S3.out.cb.cell 0
      by_cases z0 : s = 0
      · have z0z : ((s : Nat) : Int) = 0 := by omega
        go_wp2_with fail
        go_ret2
        exact ⟨p, 1, rfl, by omega, by omega, by omega, S3.out.sw⟩
      · have z0z : ¬ ((s : Nat) : Int) = 0 := by omega
        by_cases z1 : s = 12
        · have z1z : (s : Int) = 12 := by omega
          go_wp2_with fail
          go_ret2
          exact ⟨p, 2, rfl, by omega, by omega, by omega, S3.out.sw⟩
        · have z1z : ¬ (s : Int) = 12 := by omega
          go_wp2_with fail
          go_ret2
          exact ⟨p, 0, rfl, by omega, by omega, by omega, S3.out.sw⟩
    · have h50z : ¬ (L : Int) < 50 := by omega
      have H1 := Lib.hid (HADJ.out c 0 W1 HC0.out (a + Q * 1) (by omega) (by omega) (by omega))
      rw [show ((a + Q * 1 : Nat) : Int) = (a : Int) + (Q : Int) by omega] at H1
      go_wp2_with fail
      with_reducible refine H1.out.mono ?_
      rintro e1 W2 ⟨p1, s1, rfl, hp1, hp1', hs1, S2⟩
      have H2 := Lib.hid (HADJ.out c s1 W2 S2 (a + Q * 2) (by omega) (by omega) (by omega))
      rw [show ((a + Q * 2 : Nat) : Int) = (a : Int) + (Q : Int) * 2 by omega] at H2
      clear S2 HC0 H1
      go_wp2_with fail
      with_reducible refine H2.out.mono ?_
      rintro e2 W3 ⟨p2, s2, rfl, hp2, hp2', hs2, S3⟩
      have H3 := Lib.hid (HADJ.out c s2 W3 S3 (a + Q * 3) (by omega) (by omega) (by omega))
      rw [show ((a + Q * 3 : Nat) : Int) = (a : Int) + (Q : Int) * 3 by omega] at H3
      clear S3 H2
      go_wp2_with fail
      with_reducible refine H3.out.mono ?_
      rintro e3 W4 ⟨p3, s3, rfl, hp3, hp3', hs3, S4⟩
      have HM := Lib.hid (HMED.out c s3 W4 S4 p1 p2 p3 (by omega) (by omega) (by omega) (by omega))
      clear S4 H3
      go_wp2_with fail
      with_reducible refine HM.out.mono ?_
      rintro e4 W5 ⟨p, s, rfl, hp, hs, S5⟩
      have S6 := Lib.hid S5
      clear S5 HM HMED HADJ
      have c0 : W5.cell? ⟨c, 0, none⟩ = some (.int .i64 s) := S6.out.cb.cell 0
      by_cases z0 : s = 0
      · have z0z : ((s : Nat) : Int) = 0 := by omega
        go_wp2_with fail
        go_ret2
        exact ⟨p, 1, rfl, by omega, by omega, by omega, S6.out.sw⟩
      · have z0z : ¬ ((s : Nat) : Int) = 0 := by omega
        by_cases z1 : s = 12
        · have z1z : (s : Int) = 12 := by omega
          go_wp2_with fail
          go_ret2
          exact ⟨p, 2, rfl, by omega, by omega, by omega, S6.out.sw⟩
        · have z1z : ¬ (s : Int) = 12 := by omega
          go_wp2_with fail
          go_ret2
          exact ⟨p, 0, rfl, by omega, by omega, by omega, S6.out.sw⟩
end Go.Proofs.YtjefkhieihigiaaGreat

namespace Go.Proofs.YtjefkhieihigiaaGreat
set_option linter.unusedVariables false
set_option linter.unusedSimpArgs false
open Go.Joins Go.ChangeShapes Go.WideShapes Go.ChangeAt Go.RowKit Go.Deep

/-- .. and a generator's state in a new block -/
structure Dw (w0 : World) (g cap : Nat) (e : TypeId) (d : Array Int) (c s : Nat) (W : World) : Prop where
  sw : Sw w0 g cap e d W
  cl : w0.heap.size ≤ c
  cb : BoxN W c #[.int .u64 s]
  sl : s < 18446744073709551616
theorem Dw.drewN {w0 W : World} {g cap c s : Nat} {e : TypeId} {d : Array Int} (h : Dw w0 g cap e d c s W) (n : Nat) : Dw w0 g cap e d c s (W.drewN n) := ⟨h.sw.drewN n, h.cl, h.cb, h.sl⟩
theorem Dw.drew {w0 W : World} {g cap c s : Nat} {e : TypeId} {d : Array Int} (h : Dw w0 g cap e d c s W) : Dw w0 g cap e d c s W.drew := ⟨h.sw.drewN 1, h.cl, h.cb, h.sl⟩
theorem Dw.put {w0 W : World} {g cap c s : Nat} {e : TypeId} {d : Array Int} (h : Dw w0 g cap e d c s W) (t : Nat) (ht : t < 18446744073709551616) : Dw w0 g cap e d c t (W.setCell ⟨c, 0, none⟩ (.int .u64 (t : Int))) := ⟨h.sw.setNew c 0 h.cl _, h.cl, h.cb.set 0 (.int .u64 (t : Int)), ht⟩
theorem Dw.swap {w0 W : World} {g cap c s : Nat} {e : TypeId} {d : Array Int} (h : Dw w0 g cap e d c s W) (i j : Nat) (x y : Int) (hx : x = d[j]!) (hy : y = d[i]!) : Dw w0 g cap e (Sort.swp d i j) c s ((W.setCell ⟨g, i, none⟩ (.int .u64 x)).setCell ⟨g, j, none⟩ (.int .u64 y)).drew :=
  ⟨h.sw.swap i j x y hx hy, h.cl, by
    have hg : g ≠ c := by have := h.sw.gl; have := h.cl; omega
    obtain ⟨t, ht⟩ := h.cb
    exact ⟨t, by
      show ((W.setCell ⟨g, i, none⟩ _).setCell ⟨g, j, none⟩ _).heap[c]? = _
      rw [Below.heap_setCell _ _ _ _ (by show c ≠ g; omega), Below.heap_setCell _ _ _ _ (by show c ≠ g; omega)]
      exact ht⟩, h.sl⟩
set_option maxRecDepth 100000 in
set_option maxHeartbeats 2000000 in
theorem next_any (w0 : World) (g cap : Nat) (e : TypeId) (d : Array Int) (c X : Nat) (w : World) (S : Dw w0 g cap e d c X w) :
    Calls Tryz.prog 102 #[.pointer (some ⟨c, 0, none⟩)] w fun e' w' => ∃ v : Nat, e' = .returned (.int .u64 v) ∧ Dw w0 g cap e d c v w' := by
  have hX := S.sl
  have hc : w.cell? ⟨c, 0, none⟩ = some (.int .u64 X) := S.cb.cell 0
  have hf : w.frozen? ⟨c, 0, none⟩ = false := S.cb.frozen 0
  have S0 := Lib.hid S
  clear S
  obtain ⟨A, hA⟩ : ∃ A : Nat, X ^^^ (X * 8192 % 18446744073709551616) = A := ⟨_, rfl⟩
  obtain ⟨B, hB⟩ : ∃ B : Nat, A ^^^ (A / 128) = B := ⟨_, rfl⟩
  obtain ⟨C, hC⟩ : ∃ C : Nat, B ^^^ (B * 131072 % 18446744073709551616) = C := ⟨_, rfl⟩
  have lA : A < 18446744073709551616 := by rw [← hA]; exact Nat.xor_lt_two_pow (n := 64) (by omega) (by omega)
  have lB : B < 18446744073709551616 := by rw [← hB]; exact Nat.xor_lt_two_pow (n := 64) (by omega) (by omega)
  have lC : C < 18446744073709551616 := by rw [← hC]; exact Nat.xor_lt_two_pow (n := 64) (by omega) (by omega)
  have e1 : bits .xor .u64 (X : Int) (IntKind.u64.wrap ((X : Int) * 8192)) = (A : Int) := by
    rw [IntKind.wrap_u64, show ((X : Int) * 8192 % 18446744073709551616) = ((X * 8192 % 18446744073709551616 : Nat) : Int) by omega, bits_xor_u64_nat _ _ hX (by omega), hA]
  have e2 : bits .xor .u64 (A : Int) ((A : Int) / 128) = (B : Int) := by
    rw [show ((A : Int) / 128) = ((A / 128 : Nat) : Int) by omega, bits_xor_u64_nat _ _ lA (by omega), hB]
  have e3 : bits .xor .u64 (B : Int) (IntKind.u64.wrap ((B : Int) * 131072)) = (C : Int) := by
    rw [IntKind.wrap_u64, show ((B : Int) * 131072 % 18446744073709551616) = ((B * 131072 % 18446744073709551616 : Nat) : Int) by omega, bits_xor_u64_nat _ _ lB (by omega), hC]
  have LA := Lib.hid lA
  have LB := Lib.hid lB
  have LC := Lib.hid lC
  clear hA hB hC
  go_enter Tryz.func102, Tryz.ntmps102
  go_wp2_with fail
  go_region
  all_goals
    have S1 := Lib.hid (S0.out.put A LA.out).drew
    clear S0 hc hf
    obtain ⟨W1, hW1⟩ : ∃ W1, (w.setCell ⟨c, 0, none⟩ (.int .u64 (A : Int))).drew = W1 := ⟨_, rfl⟩
    rw [hW1] at S1 ⊢
    have hc1 : W1.cell? ⟨c, 0, none⟩ = some (.int .u64 A) := S1.out.cb.cell 0
    have hf1 : W1.frozen? ⟨c, 0, none⟩ = false := S1.out.cb.frozen 0
    clear hW1
    go_wp2_with fail
    go_region
  all_goals
    have S2 := Lib.hid (S1.out.put B LB.out).drew
    clear S1 hc1 hf1
    obtain ⟨W2, hW2⟩ : ∃ W2, (W1.setCell ⟨c, 0, none⟩ (.int .u64 (B : Int))).drew = W2 := ⟨_, rfl⟩
    rw [hW2] at S2 ⊢
    have hc2 : W2.cell? ⟨c, 0, none⟩ = some (.int .u64 B) := S2.out.cb.cell 0
    have hf2 : W2.frozen? ⟨c, 0, none⟩ = false := S2.out.cb.frozen 0
    clear hW2
    go_wp2_with fail
    go_region
  all_goals
    have S3 := Lib.hid (S2.out.put C LC.out).drew
    clear S2 hc2 hf2
    obtain ⟨W3, hW3⟩ : ∃ W3, (W2.setCell ⟨c, 0, none⟩ (.int .u64 (C : Int))).drew = W3 := ⟨_, rfl⟩
    rw [hW3] at S3 ⊢
    have hc3 : W3.cell? ⟨c, 0, none⟩ = some (.int .u64 C) := S3.out.cb.cell 0
    clear hW3
    go_wp2_with fail
    go_ret
    exact ⟨C, rfl, S3.out⟩
theorem two_pow_wrap (k : Nat) (hk : k ≤ 62) : IntKind.u64.wrap ((2 : Int) ^ k) = ((2 ^ k : Nat) : Int) := by
  have h : (2 : Nat) ^ k ≤ 2 ^ 62 := Nat.pow_le_pow_right (by decide) hk
  rw [IntKind.wrap_u64, show ((2 : Int) ^ k) = ((2 ^ k : Nat) : Int) by push_cast; rfl]
  generalize (2 : Nat) ^ k = p at h ⊢
  omega
theorem bitAux_zero (f : Nat) : Lib.bitLenAux f 0 = 0 := by
  cases f with
  | zero => rfl
  | succ f => unfold Lib.bitLenAux; exact if_pos rfl
theorem bitAux_two : ∀ (f x : Nat), 0 < x → x < 2 ^ f → x < 2 ^ Lib.bitLenAux f x ∧ 2 ^ Lib.bitLenAux f x ≤ 2 * x := by
  intro f
  induction f with
  | zero => intro x h0 h; simp at h; omega
  | succ f ih =>
    intro x h0 h
    have e : Lib.bitLenAux (f + 1) x = 1 + Lib.bitLenAux f (x / 2) := by conv => lhs; unfold Lib.bitLenAux
                                                                         exact if_neg (by omega)
    rw [e, Nat.add_comm, Nat.pow_succ]
    rcases Nat.eq_zero_or_pos (x / 2) with hz | hz
    · rw [hz, bitAux_zero]
      omega
    · have := ih (x / 2) hz (by rw [Nat.pow_succ] at h; omega)
      omega
theorem bitLen_two (x : Nat) (h0 : 0 < x) (h : x < 1000000) : ∃ k, Lib.bitLen x = k ∧ k ≤ 20 ∧ x < 2 ^ k ∧ 2 ^ k ≤ 2 * x := by
  obtain ⟨h1, h2⟩ := bitAux_two 64 x h0 (by omega)
  refine ⟨_, rfl, ?_, h1, h2⟩
  apply Classical.byContradiction
  intro hc
  have h3 : 2 ^ 21 ≤ 2 ^ Lib.bitLen x := Nat.pow_le_pow_right (by decide) (by omega)
  have h4 : 2 ^ Lib.bitLen x ≤ 2 * x := h2
  omega
theorem power_any (n : Nat) (h0 : 0 < n) (hn : n < 100000) (w : World) :
    Calls Tryz.prog 101 #[.int .i64 n] w fun e w' => (∃ M : Nat, e = .returned (.int .u64 M) ∧ n < M ∧ M ≤ 2 * n) ∧ w = w' := by
  obtain ⟨k, hk, hk20, h1, h2⟩ := bitLen_two n h0 (by omega)
  have HL := Lib.hid (Tryz.bits_Len (n : Int) w (by omega) (by omega))
  rw [Int.toNat_natCast, hk] at HL
  have hw := two_pow_wrap k (by omega)
  obtain ⟨M, hM⟩ : ∃ M, 2 ^ k = M := ⟨_, rfl⟩
  rw [hM] at hw h1 h2
  clear hk hM
  go_enter Tryz.func101, Tryz.ntmps101
  go_wp2_with fail
  refine HL.out.mono ?_
  rintro e W1 ⟨rfl, rfl⟩
  go_wp2_with fail
  go_ret
  exact ⟨⟨M, rfl, h1, h2⟩, rfl⟩
end Go.Proofs.YtjefkhieihigiaaGreat

namespace Go.Proofs.YtjefkhieihigiaaGreat
set_option linter.unusedVariables false
set_option linter.unusedSimpArgs false
open Go.Joins Go.ChangeShapes Go.WideShapes Go.ChangeAt Go.RowKit Go.Deep

theorem swp_perm {d0 d : Array Int} {a b i j : Nat} (hi : a ≤ i) (hi2 : i < b) (hj : a ≤ j) (hj2 : j < b) (hb : b ≤ d.size) (h : Sort.PermIn a b d0 d) : Sort.PermIn a b d0 (Sort.swp d i j) :=
  Sort.permIn_trans _ _ _ a b h (Sort.swp_permIn d a b i j hi hi2 hj hj2 hb)
set_option maxRecDepth 100000 in
set_option maxHeartbeats 2000000 in
theorem break_any (w0 : World) (g cap : Nat) (e : TypeId) (d : Array Int) (w : World) (S : Sw w0 g cap e d w) (a L : Nat) (h8 : 8 ≤ L) (hb : a + L ≤ d.size) (hsz : d.size < 100000) :
    Calls Tryz.prog 90 #[.slice (some ⟨g, 0, none⟩) d.size cap, .int .i64 a, .int .i64 ((a + L : Nat) : Int)] w fun e' w' => e' = .returned (.tuple #[]) ∧ ∃ d', Sort.PermIn a (a + L) d d' ∧ Sw w0 g cap e d' w' := by
  have S0 := Lib.hid S
  obtain ⟨c, hc⟩ : ∃ c, w.heap.size = c := ⟨_, rfl⟩
  obtain ⟨N, hN⟩ : ∃ N, d.size = N := ⟨_, rfl⟩
  rw [hN] at hb hsz
  rw [hN]
  have HN := Lib.hid hN
  obtain ⟨Q, hQ⟩ : ∃ Q, L / 4 = Q := ⟨_, rfl⟩
  have hl1 : ((a + L : Nat) : Int) - (a : Int) = (L : Int) := by omega
  have hl2 : (a : Int) + (L : Int) - (a : Int) = (L : Int) := by omega
  have q1 : (L : Int).tdiv 4 = (Q : Int) := by rw [Int.tdiv_eq_ediv_of_nonneg (by omega)]; omega
  have q2 : (L : Int) / 4 = (Q : Int) := by omega
  have q3 : 4 * Q ≤ L := by omega
  have q4 : L < 4 * Q + 4 := by omega
  have HP := Lib.hid (power_any L (by omega) (by omega))
  have HD : Hid (Dw w0 g cap e d c L (w.alloc (.cells #[.int .u64 (L : Int)] 134))) := Lib.hid ⟨S.alloc _, by rw [← hc]; exact S.kp.size, by rw [← hc]; exact BoxN.new w _ _, by omega⟩
  clear S hN hQ
  go_enter Tryz.func90, Tryz.ntmps90
  go_upto_region 3 with fail
  obtain ⟨W1, hW1⟩ : ∃ W1, w.alloc (.cells #[.int .u64 (L : Int)] 134) = W1 := ⟨_, rfl⟩
  rw [hW1] at HD ⊢
  clear hc hW1 S0
  have HP1 := Lib.hid (HP.out W1)
  clear HP
  go_wp2_with fail
  refine HP1.out.mono ?_
  rintro e1 W1' ⟨⟨M, rfl, hM1, hM2⟩, rfl⟩
  go_wp2_with fail
  go_loopg [9] 3 (fun k vi wr => ∃ (t s : Nat) (dk : Array Int), vi = .int .i64 ((a : Int) + (Q : Int) * 2 - 1 + (t : Int)) ∧ t ≤ 3 ∧ 3 - t ≤ k ∧ dk.size = N ∧ Hid (Dw w0 g cap e dk c s wr) ∧ Hid (Sort.PermIn a (a + L) d dk))
  case atStart => exact ⟨0, L, d, by first | rfl | (congr 1; omega), by omega, by omega, HN.out, HD, Lib.hid (Sort.permIn_refl _ _ _)⟩
  case round =>
    clear HD
    obtain ⟨t, s, dk, rfl, ht, hk, hds, S1, HO⟩ := hrel
    by_cases h3 : t < 3
    · obtain ⟨p, hp⟩ : ∃ p, a + Q * 2 - 1 + t = p := ⟨_, rfl⟩
      have hpz : (a : Int) + (Q : Int) * 2 - 1 + (t : Int) = (p : Int) := by omega
      have hpN : p < N := by omega
      have hz : (p : Int) ≤ (a : Int) + (Q : Int) * 2 + 1 := by omega
      have HNX := Lib.hid (next_any w0 g cap e dk c s wr S1.out)
      clear S1
      go_wp2_with fail
      refine HNX.out.mono ?_
      rintro e2 W2 ⟨v, rfl, S2'⟩
      have S2 := Lib.hid S2'
      clear S2' HNX
      have hv := S2.out.sl
      obtain ⟨O, hO⟩ : ∃ O, v &&& (M - 1) = O := ⟨_, rfl⟩
      have hOM : O ≤ M - 1 := by rw [← hO]; exact Nat.and_le_right
      have hand : bits .and .u64 (v : Int) ((M : Int) - 1) = (O : Int) := by
        rw [show ((M : Int) - 1) = ((M - 1 : Nat) : Int) by omega, bits_and_u64_nat _ _ hv (by omega), hO]
      have hwO : IntKind.i64.wrap (O : Int) = (O : Int) := IntWalk.i64_in _ (by omega)
      clear hO hv
      by_cases hOL : L ≤ O
      · have hOLz : (L : Int) ≤ (O : Int) := by omega
        obtain ⟨o, ho⟩ : ∃ o, O - L = o := ⟨_, rfl⟩
        have hoz : (O : Int) - (L : Int) = (o : Int) := by omega
        go_wp2_with fail
        obtain ⟨q, hq⟩ : ∃ q, a + o = q := ⟨_, rfl⟩
        have hqz : (a : Int) + (o : Int) = (q : Int) := by omega
        have hqN : q < N := by omega
        have hqL : q < a + L := by omega
        have hqa : a ≤ q := by omega
        have ep : W2.cell? ⟨g, p, none⟩ = some (.int .u64 dk[p]!) := S2.out.sw.c p (by omega)
        have eq : W2.cell? ⟨g, q, none⟩ = some (.int .u64 dk[q]!) := S2.out.sw.c q (by omega)
        have hfw : ∀ t, W2.frozen? ⟨g, t, none⟩ = false := S2.out.sw.f
        obtain ⟨x, hx⟩ : ∃ x, dk[p]! = x := ⟨_, rfl⟩
        obtain ⟨y, hy⟩ : ∃ y, dk[q]! = y := ⟨_, rfl⟩
        rw [hx] at ep
        rw [hy] at eq
        have HX := Lib.hid hx
        have HY := Lib.hid hy
        clear hx hy hq
        by_cases hpq : p = q
        · subst hpq
          obtain rfl : x = y := by rw [← HX.out, ← HY.out]
          go_region
          go_wp2_with fail
          go_roundg (2 - t)
          case measure => omega
          case rel => exact ⟨t + 1, v, Sort.swp dk p p, by first | rfl | go_num | (congr 1; omega), by omega, by omega, by rw [swp_sz]; exact hds, Lib.hid (S2.out.swap p p x x HX.out.symm HX.out.symm), Lib.hid (swp_perm (by omega) (by omega) hqa hqL (by omega) HO.out)⟩
        · go_region
          go_wp2_with fail
          go_roundg (2 - t)
          case measure => omega
          case rel => exact ⟨t + 1, v, Sort.swp dk p q, by first | rfl | go_num | (congr 1; omega), by omega, by omega, by rw [swp_sz]; exact hds, Lib.hid (S2.out.swap p q y x HY.out.symm HX.out.symm), Lib.hid (swp_perm (by omega) (by omega) hqa hqL (by omega) HO.out)⟩
      · have hOLz : ¬ (L : Int) ≤ (O : Int) := by omega
        go_wp2_with fail
        obtain ⟨q, hq⟩ : ∃ q, a + O = q := ⟨_, rfl⟩
        have hqz : (a : Int) + (O : Int) = (q : Int) := by omega
        have hqN : q < N := by omega
        have hqL : q < a + L := by omega
        have hqa : a ≤ q := by omega
        have ep : W2.cell? ⟨g, p, none⟩ = some (.int .u64 dk[p]!) := S2.out.sw.c p (by omega)
        have eq : W2.cell? ⟨g, q, none⟩ = some (.int .u64 dk[q]!) := S2.out.sw.c q (by omega)
        have hfw : ∀ t, W2.frozen? ⟨g, t, none⟩ = false := S2.out.sw.f
        obtain ⟨x, hx⟩ : ∃ x, dk[p]! = x := ⟨_, rfl⟩
        obtain ⟨y, hy⟩ : ∃ y, dk[q]! = y := ⟨_, rfl⟩
        rw [hx] at ep
        rw [hy] at eq
        have HX := Lib.hid hx
        have HY := Lib.hid hy
        clear hx hy hq
        by_cases hpq : p = q
        · subst hpq
          obtain rfl : x = y := by rw [← HX.out, ← HY.out]
          go_region
          go_wp2_with fail
          go_roundg (2 - t)
          case measure => omega
          case rel => exact ⟨t + 1, v, Sort.swp dk p p, by first | rfl | go_num | (congr 1; omega), by omega, by omega, by rw [swp_sz]; exact hds, Lib.hid (S2.out.swap p p x x HX.out.symm HX.out.symm), Lib.hid (swp_perm (by omega) (by omega) hqa hqL (by omega) HO.out)⟩
        · go_region
          go_wp2_with fail
          go_roundg (2 - t)
          case measure => omega
          case rel => exact ⟨t + 1, v, Sort.swp dk p q, by first | rfl | go_num | (congr 1; omega), by omega, by omega, by rw [swp_sz]; exact hds, Lib.hid (S2.out.swap p q y x HY.out.symm HX.out.symm), Lib.hid (swp_perm (by omega) (by omega) hqa hqL (by omega) HO.out)⟩
    · obtain rfl : t = 3 := by omega
      have hz : ¬ (a : Int) + (Q : Int) * 2 - 1 + ((3 : Nat) : Int) ≤ (a : Int) + (Q : Int) * 2 + 1 := by omega
      go_wp2_with fail
      go_end0
      exact ⟨rfl, dk, HO.out, S1.out.sw⟩
end Go.Proofs.YtjefkhieihigiaaGreat

