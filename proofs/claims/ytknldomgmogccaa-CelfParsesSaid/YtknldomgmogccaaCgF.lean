/- The document's reader: what it has, its numbers and texts: contracts. -/
import Derived.Test.YtknldomgmogccaaCeO
import Derived.Test.YtknldomgmogccaaCgB
import Derived.Deep.QuietTactic
import Derived.BigQuiet
import Derived.Deep.RegionLaw
namespace Go.Proofs.Ytknldomgmogccaa
set_option linter.unusedVariables false
set_option linter.unusedSimpArgs false
open Go.Joins Go.ChangeShapes Go.WideShapes Go.ChangeAt Go.RowKit Go.Deep

/-- the document's reader R of the bytes b, made at base or behind it, has this state -/
structure RrAt (base R : Nat) (W : World) (b : List UInt8) (s : St) : Prop where
  lo : base ≤ R
  len : b.length ≤ 100000
  box : ∃ k, k ≤ b.length ∧ s.rest = b.drop k ∧ ∃ a c, BoxN W R #[.slice a b.length c, .int .i64 (k : Int), .int .i64 s.wrong] ∧ b.length ≤ c ∧ BytesIn base W a b
theorem RrAt.kp {base R n : Nat} {S : Nat → Prop} {W W' : World} {b : List UInt8} {s : St} (h : RrAt base R W b s) (hk : KP n S W W') (hR : R < n) (hS : ∀ b, b ≤ R → ¬ S b) : RrAt base R W' b s := by
  obtain ⟨lo, hl, k, h0, h1, a, c, h2, h3, h4⟩ := h
  exact ⟨lo, hl, k, h0, h1, a, c, h2.kp hk hR (hS R (Nat.le_refl _)), h3, h4.kp hk (by omega) (fun b hb => hS b (by omega))⟩
theorem RrAt.lt {base R : Nat} {W : World} {b : List UInt8} {s : St} (h : RrAt base R W b s) : R < W.heap.size := by
  obtain ⟨k, h0, h1, a, c, h2, -⟩ := h.box
  exact h2.lt
theorem RrAt.below {base R : Nat} {W W' : World} {b : List UInt8} {s : St} (h : RrAt base R W b s) (hb : Below W.heap.size W W') : RrAt base R W' b s :=
  h.kp (n := W.heap.size) (S := fun _ => False) ⟨hb.os, hb.tape, hb.output, hb.size, fun b h1 _ => hb.block b h1⟩ h.lt (fun _ _ => id)
theorem RrAt.drewN {base R : Nat} {W : World} {b : List UInt8} {s : St} (h : RrAt base R W b s) (n : Nat) : RrAt base R (W.drewN n) b s := h.below (below_dN W n)
theorem rr_setB {base R : Nat} {Wi : World} {b : List UInt8} {s : St} (h : RrAt base R Wi b s) {B j : Nat} (hB : R < B) (u : Value) : RrAt base R (Wi.setCell ⟨B, j, none⟩ u) b s :=
  h.kp (n := R + 1) (S := fun _ => False) ((KP.refl (R + 1) (fun _ => False) Wi).set ⟨B, j, none⟩ (Or.inl hB) u) (Nat.lt_succ_self R) (fun _ _ => id)
theorem RrAt.err {base R : Nat} {W : World} {b : List UInt8} {s : St} (h : RrAt base R W b s) (e : Int) : RrAt base R (W.setCell ⟨R, 2, none⟩ (.int .i64 e)) b ⟨s.rest, e⟩ := by
  obtain ⟨lo, hl, k, h0, h1, a, c, h2, h3, h4⟩ := h
  exact ⟨lo, hl, k, h0, h1, a, c, h2.set 2 _, h3, h4.kp (KP.set1 W R 2 (.int .i64 e)) (by have := h2.lt; omega) (fun b hb q => by have : b = R := q; omega)⟩
theorem kp_dN (W : World) (R n : Nat) : KP W.heap.size (· = R) W (W.drewN n) := KP.of_below _ (below_dN W n)
theorem drop_take_drop (b : List UInt8) (k n : Nat) : (b.drop k).take n = (b.drop k).take n := rfl
set_option maxHeartbeats 4000000 in
theorem rnum_any (base R : Nat) (b : List UInt8) (s : St) (n : Nat) (W : World) (h : RrAt base R W b s) (hn0 : 0 < n) (hn : n ≤ 4) :
    Calls Try.prog 16 #[.pointer (some ⟨R, 0, none⟩), .int .i64 n] W fun e W' => e = .returned (.int .i64 ((numP n s).1 : Int)) ∧ RrAt base R W' b (numP n s).2 ∧ KP W.heap.size (· = R) W W' := by
  have HNL := Lib.hid (numP_lt n s)
  obtain ⟨rest, wr⟩ := s
  obtain ⟨k, hk, hrest, a, c, hbx, hc, hby⟩ := h.box
  have lo := h.lo
  have hlen := h.len
  simp only [] at hbx hrest
  have c0 : W.cell? ⟨R, 0, none⟩ = some (.slice a b.length c) := hbx.cell 0
  have c1 : W.cell? ⟨R, 1, none⟩ = some (.int .i64 k) := hbx.cell 1
  have c2 : W.cell? ⟨R, 2, none⟩ = some (.int .i64 wr) := hbx.cell 2
  have z1 : W.frozen? ⟨R, 1, none⟩ = false := hbx.frozen 1
  have z2 : W.frozen? ⟨R, 2, none⟩ = false := hbx.frozen 2
  have H := Lib.hid h
  have HB := Lib.hid hbx
  have HY := Lib.hid hby
  obtain ⟨m, hm⟩ : ∃ m, b.length = m := ⟨_, rfl⟩
  have HM := Lib.hid hm
  rw [hm] at c0 hc hlen hk
  have hrl : rest.length = m - k := by rw [hrest, List.length_drop, hm]
  have HRE := Lib.hid hrest
  clear h hbx hby hm hrest
  by_cases hw : wr = 0
  · subst hw
    have kn0 : IntKind.i64.wrap ((k : Int) + (n : Int)) = (k : Int) + (n : Int) := IntWalk.i64_in _ (by omega)
    by_cases hlt : m - k < n
    · have ht : takeP n ⟨rest, 0⟩ = ([], ⟨rest, 101⟩) := by unfold takeP; rw [if_pos rfl, if_pos (by rw [hrl]; exact hlt)]
      have hN : numP n ⟨rest, 0⟩ = (0, ⟨rest, 101⟩) := by unfold numP; rw [ht]; rfl
      rw [hN]
      have hE := Lib.hid (H.out.err 101)
      have g1 : (m : Int) < (k : Int) + (n : Int) := by omega
      clear hN ht hrl
      go_enter Try.func16, Try.ntmps16
      go_wp2_with fail
      go_quiet (fail)
      have z2d : (W.drewN nq).frozen? ⟨R, 2, none⟩ = false := z2
      have c2d : (W.drewN nq).cell? ⟨R, 2, none⟩ = some (.int .i64 0) := c2
      have HE2 := Lib.hid ((H.out.drewN nq).err 101)
      have HK2 := Lib.hid ((kp_dN W R nq).set ⟨R, 2, none⟩ (Or.inr rfl) (.int .i64 101))
      obtain ⟨U, hU⟩ : ∃ U, W.drewN nq = U := ⟨_, rfl⟩
      rw [hU] at HE2 HK2 z2d c2d ⊢
      clear hU
      go_wp2_with fail
      go_ret
      exact ⟨rfl, HE2.out, HK2.out⟩
    · have ht : takeP n ⟨rest, 0⟩ = (rest.take n, ⟨rest.drop n, 0⟩) := by unfold takeP; rw [if_pos rfl, if_neg (by rw [hrl]; exact hlt)]
      have hN : numP n ⟨rest, 0⟩ = (ofB (nats (rest.take n)), ⟨rest.drop n, 0⟩) := by unfold numP; rw [ht]
      have hNL := HNL.out
      rw [hN] at hNL ⊢
      have hx5 : 2 ^ (8 * n) ≤ 4294967296 := Nat.le_trans (Nat.pow_le_pow_right (by decide) (show 8 * n ≤ 32 by omega)) (by decide)
      obtain ⟨x, hx⟩ : ∃ x, ofB (nats (rest.take n)) = x := ⟨_, rfl⟩
      have hxl : x < 4294967296 := by have : ofB (nats (rest.take n)) < 2 ^ (8 * n) := hNL; rw [hx] at this; omega
      have tl : (rest.take n).length = n := by rw [List.length_take, hrl]; omega
      obtain ⟨q, hq⟩ : ∃ q, k + n = q := ⟨_, rfl⟩
      have hkc : ¬ c = k := by omega
      have hby2 : BytesIn base W (tailA a k c) rest := by rw [HRE.out]; exact HY.out.drop k c (by rw [HM.out]; exact hc)
      unfold tailA at hby2
      rw [if_neg hkc, Nat.mul_one] at hby2
      obtain ⟨am, ham⟩ : ∃ am, a.map (fun x => x.add k) = am := ⟨_, rfl⟩
      rw [ham] at hby2
      have hO : ∀ (W' : World), BytesIn base W' am rest → Calls Try.prog 48 #[.slice am (q - k) (c - k)] W' fun e w' => e = .returned (.int .u64 (x : Int)) ∧ w' = W' := fun W' hW => by
        have h1 := (hW.take n).1
        rw [tl, u8v_nats] at h1
        have h2 := rof_any am n (c - k) (nats (rest.take n)) W' h1 (nats_lt _) (by omega)
        rw [hx] at h2
        rw [show q - k = n by omega]
        exact h2.mono fun e w ⟨h3, h4⟩ => ⟨h3, h4.symm⟩
      simp only [hx]
      have HO := Lib.hid hO
      have HF : Hid (RrAt base R (W.setCell ⟨R, 1, none⟩ (.int .i64 (q : Int))) b ⟨rest.drop n, 0⟩) := Lib.hid ⟨lo, by rw [HM.out]; exact hlen, q, by rw [HM.out]; omega, by rw [HRE.out, ← hq]; simp [List.drop_drop], a, c, by rw [HM.out]; have := HB.out.set 1 (.int .i64 (q : Int)); rw [HM.out] at this; exact this, by rw [HM.out]; exact hc, HY.out.kp (KP.set1 W R 1 (.int .i64 (q : Int))) (by have := HB.out.lt; omega) (fun b hb q => by have : b = R := q; omega)⟩
      have HW2 := Lib.hid (hby2.kp (KP.set1 W R 1 (.int .i64 (q : Int))) (by have := HB.out.lt; omega) (fun b hb q => by have : b = R := q; omega))
      have hbx2 : BoxN (W.setCell ⟨R, 1, none⟩ (.int .i64 (q : Int))) R #[.slice a m c, .int .i64 (q : Int), .int .i64 0] := by have := HB.out.set 1 (.int .i64 (q : Int)); rw [HM.out] at this; exact this
      have HBX2 := Lib.hid hbx2
      have g1 : ¬ (m : Int) < (k : Int) + (n : Int) := by omega
      have HQI := Lib.hid (show (k : Int) + (n : Int) = (q : Int) by omega)
      have kn1 : IntKind.i64.wrap ((q : Int) - (n : Int)) = (k : Int) := by rw [IntWalk.i64_in _ (by omega)]; omega
      have hx0 : IntKind.i64.wrap (x : Int) = (x : Int) := IntWalk.i64_in _ (by omega)
      have l0 : (0 : Int) ≤ (k : Int) := by omega
      have l1 : (k : Int) ≤ (q : Int) := by omega
      have l2 : (q : Int) ≤ (c : Int) := by omega
      have l3 : (0 : Int) ≤ (q : Int) := by omega
      have HAM := Lib.hid ham
      clear hN ht hrl hNL hx5 hx tl hby2 hO HNL hbx2 hq ham HB HY H HRE
      go_enter Try.func16, Try.ntmps16
      go_wp2_with fail
      go_quiet (fail)
      obtain ⟨U0, hU0⟩ : ∃ U, W.drewN nq = U := ⟨_, rfl⟩
      have HF := Lib.hid (show RrAt base R ((W.drewN nq).setCell ⟨R, 1, none⟩ (.int .i64 (q : Int))) b ⟨rest.drop n, 0⟩ from HF.out.drewN nq)
      have HW2 := Lib.hid (show BytesIn base ((W.drewN nq).setCell ⟨R, 1, none⟩ (.int .i64 (q : Int))) am rest from HW2.out)
      have HBX2 := Lib.hid (show BoxN ((W.drewN nq).setCell ⟨R, 1, none⟩ (.int .i64 (q : Int))) R #[.slice a m c, .int .i64 (q : Int), .int .i64 0] from HBX2.out)
      have HKP := Lib.hid ((kp_dN W R nq).set ⟨R, 1, none⟩ (Or.inr rfl) (.int .i64 (q : Int)))
      have c0 : U0.cell? ⟨R, 0, none⟩ = some (.slice a m c) := by rw [← hU0]; exact c0
      have c1 : U0.cell? ⟨R, 1, none⟩ = some (.int .i64 k) := by rw [← hU0]; exact c1
      have z1 : U0.frozen? ⟨R, 1, none⟩ = false := by rw [← hU0]; exact z1
      rw [hU0] at HF HW2 HBX2 HKP ⊢
      clear hU0 c2 z2
      go_upto_region 7 with fail
      rw [HQI.out]
      obtain ⟨U, hU⟩ : ∃ U, U0.setCell ⟨R, 1, none⟩ (.int .i64 (q : Int)) = U := ⟨_, rfl⟩
      rw [hU] at HF HW2 HBX2 HKP ⊢
      clear hU c0 c1 z1
      have c0 : U.cell? ⟨R, 0, none⟩ = some (.slice a m c) := HBX2.out.cell 0
      have c1 : U.cell? ⟨R, 1, none⟩ = some (.int .i64 (q : Int)) := HBX2.out.cell 1
      go_quiet ((go_at_call 48; rw [HAM.out]; exact Calls.quiet_of_same (HO.out _ HW2.out)))
      have HF2 := Lib.hid (HF.out.drewN nq)
      have HKP2 := Lib.hid (HKP.out.trans (show KP W.heap.size (· = R) U (U.drewN nq) from ⟨rfl, rfl, rfl, Nat.le_refl _, fun _ _ _ => rfl⟩))
      go_wp2_with fail
      go_ret
      exact ⟨rfl, HF2.out, HKP2.out⟩
  · have ht : takeP n ⟨rest, wr⟩ = ([], ⟨rest, wr⟩) := by unfold takeP; rw [if_neg hw]
    have hN : numP n ⟨rest, wr⟩ = (0, ⟨rest, wr⟩) := by unfold numP; rw [ht]; rfl
    rw [hN]
    go_enter Try.func16, Try.ntmps16
    go_wp2_with fail
    go_ret
    exact ⟨rfl, H.out, KP.refl _ _ _⟩
set_option maxHeartbeats 4000000 in
theorem rmany_any (base R : Nat) (b : List UInt8) (s : St) (n : Nat) (W : World) (h : RrAt base R W b s) (hn : n < 4294967296) :
    Calls Try.prog 17 #[.pointer (some ⟨R, 0, none⟩), .int .i64 n] W fun e W' => (∃ a c, e = .returned (.slice a (takeP n s).1.length c) ∧ NewB (fun b => W.heap.size ≤ b) W' a (takeP n s).1) ∧ RrAt base R W' b (takeP n s).2 ∧ KP W.heap.size (· = R) W W' := by
  obtain ⟨rest, wr⟩ := s
  obtain ⟨k, hk, hrest, a, c, hbx, hc, hby⟩ := h.box
  have lo := h.lo
  have hlen := h.len
  simp only [] at hbx hrest
  have c0 : W.cell? ⟨R, 0, none⟩ = some (.slice a b.length c) := hbx.cell 0
  have c1 : W.cell? ⟨R, 1, none⟩ = some (.int .i64 k) := hbx.cell 1
  have c2 : W.cell? ⟨R, 2, none⟩ = some (.int .i64 wr) := hbx.cell 2
  have z1 : W.frozen? ⟨R, 1, none⟩ = false := hbx.frozen 1
  have z2 : W.frozen? ⟨R, 2, none⟩ = false := hbx.frozen 2
  have H := Lib.hid h
  have HB := Lib.hid hbx
  have HY := Lib.hid hby
  obtain ⟨m, hm⟩ : ∃ m, b.length = m := ⟨_, rfl⟩
  have HM := Lib.hid hm
  rw [hm] at c0 hc hlen hk
  have hrl : rest.length = m - k := by rw [hrest, List.length_drop, hm]
  have HRE := Lib.hid hrest
  clear h hbx hby hm hrest
  by_cases hw : wr = 0
  · subst hw
    have km0 : IntKind.i64.wrap ((m : Int) - (k : Int)) = (m : Int) - (k : Int) := IntWalk.i64_in _ (by omega)
    by_cases hlt : m - k < n
    · have ht : takeP n ⟨rest, 0⟩ = ([], ⟨rest, 101⟩) := by unfold takeP; rw [if_pos rfl, if_pos (by rw [hrl]; exact hlt)]
      rw [ht]
      have g1 : (m : Int) - (k : Int) < (n : Int) := by omega
      clear ht hrl
      go_enter Try.func17, Try.ntmps17
      go_wp2_with fail
      go_quiet (fail)
      have z2d : (W.drewN nq).frozen? ⟨R, 2, none⟩ = false := z2
      have c2d : (W.drewN nq).cell? ⟨R, 2, none⟩ = some (.int .i64 0) := c2
      have HE2 := Lib.hid ((H.out.drewN nq).err 101)
      have HK2 := Lib.hid ((kp_dN W R nq).set ⟨R, 2, none⟩ (Or.inr rfl) (.int .i64 101))
      obtain ⟨U, hU⟩ : ∃ U, W.drewN nq = U := ⟨_, rfl⟩
      rw [hU] at HE2 HK2 z2d c2d ⊢
      clear hU
      go_wp2_with fail
      go_ret
      exact ⟨⟨none, ⟨0, rfl⟩, Rd.nil _ _, fun h => absurd h (by simp)⟩, HE2.out, HK2.out⟩
    · have ht : takeP n ⟨rest, 0⟩ = (rest.take n, ⟨rest.drop n, 0⟩) := by unfold takeP; rw [if_pos rfl, if_neg (by rw [hrl]; exact hlt)]
      rw [ht]
      simp only []
      have tl : (rest.take n).length = n := by rw [List.length_take, hrl]; omega
      obtain ⟨q, hq⟩ : ∃ q, k + n = q := ⟨_, rfl⟩
      have hby2 : BytesIn base W (tailA a k c) rest := by rw [HRE.out]; exact HY.out.drop k c (by rw [HM.out]; exact hc)
      have hby3 := hby2.take n
      unfold tailA at hby3
      rw [Nat.mul_one] at hby3
      obtain ⟨am, ham⟩ : ∃ am, (if c = k then a else a.map (fun x => x.add k)) = am := ⟨_, rfl⟩
      rw [ham] at hby3
      have HF : Hid (RrAt base R (W.setCell ⟨R, 1, none⟩ (.int .i64 (q : Int))) b ⟨rest.drop n, 0⟩) := Lib.hid ⟨lo, by rw [HM.out]; exact hlen, q, by rw [HM.out]; omega, by rw [HRE.out, ← hq]; simp [List.drop_drop], a, c, by rw [HM.out]; have := HB.out.set 1 (.int .i64 (q : Int)); rw [HM.out] at this; exact this, by rw [HM.out]; exact hc, HY.out.kp (KP.set1 W R 1 (.int .i64 (q : Int))) (by have := HB.out.lt; omega) (fun b hb q => by have : b = R := q; omega)⟩
      have HW2 := Lib.hid (hby3.kp (KP.set1 W R 1 (.int .i64 (q : Int))) (by have := HB.out.lt; omega) (fun b hb q => by have : b = R := q; omega))
      have hbx2 : BoxN (W.setCell ⟨R, 1, none⟩ (.int .i64 (q : Int))) R #[.slice a m c, .int .i64 (q : Int), .int .i64 0] := by have := HB.out.set 1 (.int .i64 (q : Int)); rw [HM.out] at this; exact this
      have HBX2 := Lib.hid hbx2
      obtain ⟨l, hl⟩ : ∃ l, rest.take n = l := ⟨_, rfl⟩
      rw [hl] at tl HW2 ⊢
      have HQI := Lib.hid (show (k : Int) + (n : Int) = (q : Int) by omega)
      have g1 : ¬ (m : Int) - (k : Int) < (n : Int) := by omega
      have kn1 : IntKind.i64.wrap ((q : Int) - (n : Int)) = (k : Int) := by rw [IntWalk.i64_in _ (by omega)]; omega
      have l0 : (0 : Int) ≤ (k : Int) := by omega
      have l1 : (k : Int) ≤ (q : Int) := by omega
      have l2 : (q : Int) ≤ (c : Int) := by omega
      have l3 : (0 : Int) ≤ (q : Int) := by omega
      have hqk : q - k = n := by omega
      have HQK := Lib.hid hqk
      have HAM := Lib.hid ham
      have HTL := Lib.hid tl
      have hn1 : n ≤ 100000 := by omega
      clear ht hrl tl hby2 hbx2 hq ham HB HY H HRE hqk hl hby3
      go_enter Try.func17, Try.ntmps17
      go_wp2_with fail
      go_quiet (fail)
      have HF := Lib.hid (show RrAt base R ((W.drewN nq).setCell ⟨R, 1, none⟩ (.int .i64 (q : Int))) b ⟨rest.drop n, 0⟩ from HF.out.drewN nq)
      have HW2 := Lib.hid (show BytesIn base ((W.drewN nq).setCell ⟨R, 1, none⟩ (.int .i64 (q : Int))) am l from HW2.out)
      have HBX2 := Lib.hid (show BoxN ((W.drewN nq).setCell ⟨R, 1, none⟩ (.int .i64 (q : Int))) R #[.slice a m c, .int .i64 (q : Int), .int .i64 0] from HBX2.out)
      have HKP := Lib.hid ((kp_dN W R nq).set ⟨R, 1, none⟩ (Or.inr rfl) (.int .i64 (q : Int)))
      obtain ⟨U0, hU0⟩ : ∃ U, W.drewN nq = U := ⟨_, rfl⟩
      have c0 : U0.cell? ⟨R, 0, none⟩ = some (.slice a m c) := by rw [← hU0]; exact c0
      have c1 : U0.cell? ⟨R, 1, none⟩ = some (.int .i64 k) := by rw [← hU0]; exact c1
      have z1 : U0.frozen? ⟨R, 1, none⟩ = false := by rw [← hU0]; exact z1
      rw [hU0] at HF HW2 HBX2 HKP ⊢
      clear hU0 c2 z2
      go_upto_region 7 with fail
      rw [HQI.out]
      obtain ⟨U, hU⟩ : ∃ U, U0.setCell ⟨R, 1, none⟩ (.int .i64 (q : Int)) = U := ⟨_, rfl⟩
      rw [hU] at HF HW2 HBX2 HKP ⊢
      clear hU c0 c1 z1
      have c0 : U.cell? ⟨R, 0, none⟩ = some (.slice a m c) := HBX2.out.cell 0
      have c1 : U.cell? ⟨R, 1, none⟩ = some (.int .i64 (q : Int)) := HBX2.out.cell 1
      have HUS := Lib.hid HKP.out.size
      have hRU := HF.out.lt
      have HRD : Hid (Rd (U.drew.alloc (.cells #[] 5)) am (n * 1) (u8v l)) := Lib.hid (by
        have h0 := HW2.out.rd
        rw [HTL.out] at h0
        exact h0.below (w' := U.drew.alloc (.cells #[] 5)) (bAlloc (Below.drew (Below.refl _ _)) _))
      go_region_law (first
        | (refine step_appE 22 5 (.int .u8 0) 1 1 Try.underlying22 infoU8' rfl (by decide) (by decide) _ rfl _ _ rfl U.heap.size (.slice (some ⟨U.heap.size, 0, none⟩) 0 0) 0 [] rfl (World.ownsRow_lit U.drew #[] 0 (Nat.le_refl _) (by decide) rfl) am n (c - k) (u8v l) (by rw [← HQK.out, ← HAM.out]; rfl) HRD.out (u8v_one l) (by omega) (by simp) ?_; intro a7 c7 W7 hown7 hgrow7 hat7; rw [Nat.zero_add, List.nil_append] at hown7; have NB7 := Lib.hid (newB_of_own hown7 HTL.out); have hkf : KP U.heap.size (fun _ => False) U W7 := ((KP.refl U.heap.size (fun _ => False) U).drew.alloc (.cells #[] 5) (Nat.le_refl _)).grown hgrow7 (by simp) (fun r e => Or.inl (by cases e; exact Nat.le_refl _)); have HF7 := Lib.hid (HF.out.kp hkf hRU (fun _ _ => id)); have HK7 := Lib.hid (step_kp HKP.out (hkf.mono (Nat.le_refl _) (fun _ _ h => h.elim))); clear hown7 hgrow7 hat7 hkf))
      all_goals
        go_wp2_with fail
        all_goals
          go_ret
          exact ⟨⟨a7, ⟨c7, by rw [HTL.out]; rfl⟩, NB7.out.mono (fun b _ q => Nat.le_trans HUS.out q)⟩, HF7.out, HK7.out⟩
  · have ht : takeP n ⟨rest, wr⟩ = ([], ⟨rest, wr⟩) := by unfold takeP; rw [if_neg hw]
    rw [ht]
    go_enter Try.func17, Try.ntmps17
    go_wp2_with fail
    go_ret
    exact ⟨⟨_, _, rfl, Rd.nil _ _, fun h => absurd h (by simp)⟩, H.out, KP.refl _ _ _⟩
theorem run_strN (P : Nat → Prop) (W : World) (a : Option Addr) (c : Nat) (l : List UInt8) (h : NewB P W a l) : (convert 22 9 (.slice a l.length c)).run Try.prog W = .ok (.string ⟨l.toArray⟩) W :=
  run_str W W.heap.size a c l ⟨h.1, fun h0 => by
    obtain ⟨b, off, e, hl, -⟩ := h.1.2 h0
    exact ⟨b, off, e, hl⟩⟩
theorem rtext_any (base R : Nat) (b : List UInt8) (s : St) (W : World) (h : RrAt base R W b s) :
    Calls Try.prog 15 #[.pointer (some ⟨R, 0, none⟩)] W fun e W' => e = .returned (.string ⟨(textP s).1.toArray⟩) ∧ RrAt base R W' b (textP s).2 ∧ KP W.heap.size (· = R) W W' := by
  have HB := Lib.hid (rnum_any base R b s 1 W h (by decide) (by decide))
  have hlt := numP_lt 1 s
  unfold textP
  obtain ⟨⟨x, s1⟩, hx⟩ : ∃ x, numP 1 s = x := ⟨_, rfl⟩
  rw [hx] at HB hlt ⊢
  have hlt : x < 256 := hlt
  have HT := Lib.hid (fun W (hW : RrAt base R W b s1) => rmany_any base R b s1 x W hW (by omega))
  simp only [] at HT HB ⊢
  obtain ⟨⟨l2, s2⟩, hy⟩ : ∃ x', takeP x s1 = x' := ⟨_, rfl⟩
  rw [hy] at HT ⊢
  clear hx hy h
  go_enter Try.func15, Try.ntmps15
  go_wp2_with fail
  refine HB.out.mono ?_; rintro e W1 ⟨rfl, hrd, hkp⟩
  have HRD := Lib.hid hrd
  have HKP := Lib.hid hkp
  clear hrd hkp
  go_wp2_with fail
  refine (HT.out W1 HRD.out).mono ?_; rintro e W2 ⟨⟨a, c, rfl, hby⟩, hrd, hkp⟩
  have hst := run_strN _ W2 a c l2 hby
  have HRD2 := Lib.hid hrd
  have HKP2 := Lib.hid (HKP.out.trans (hkp.mono HKP.out.size (fun _ _ => id)))
  clear hby hrd hkp
  simp only [] at hst ⊢
  go_wp2_with fail
  go_ret
  exact ⟨rfl, HRD2.out, HKP2.out⟩
end Go.Proofs.Ytknldomgmogccaa
