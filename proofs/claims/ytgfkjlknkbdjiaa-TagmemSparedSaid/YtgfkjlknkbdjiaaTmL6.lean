/- Bytes that are put stand there: contract. -/
import Derived.Test.YtgfkjlknkbdjiaaTmAw
import Derived.Test.YtgfkjlknkbdjiaaTmPn
import Derived.Deep.Cut
namespace Go.Proofs.Ytgfkjlknkbdjiaa
set_option linter.unusedVariables false
set_option linter.unusedSimpArgs false
open Go.Joins Go.ChangeShapes Go.WideShapes Go.ChangeAt Go.RowKit Go.Deep

theorem Own1.low {W : World} {N N' M : Nat} {F : Nat → Prop} {m : Mm} (h : Own1 W N F M m) (hN : N' ≤ N) : Own1 W N' F M m :=
  ⟨h.mem, fun q hq => Nat.le_trans hN (h.ge q hq), Nat.le_trans hN h.sz⟩
/-- a row of the caller's, with something in it -/
theorem RdX.mine {W W' : World} {M : Nat} {F : Nat → Prop} {m : Mm} {a : Option Addr} {n : Nat} {xs : List Value} (h : Own1 W' W.heap.size F M m) (hb : Below W.heap.size W W') (hr : Rd W a n xs) : RdX W' F a n xs :=
  ⟨hr.below hb, fun b off h0 e => by
    obtain ⟨b', off', e', hl, -⟩ := hr.2 h0
    rw [e] at e'
    cases e'
    exact ⟨fun hf => by have := h.ge b hf; omega, Nat.lt_of_lt_of_le hl hb.size⟩⟩
theorem own_max {w : World} {B n c : Nat} {e : TypeId} {a : Option Addr} {xs : List Value} (h : w.ownsRow B e 1 (.slice a n c) n xs) : n ≤ 9223372036854775807 := by
  rcases h.2 with ⟨_, h0⟩ | ⟨g, cap, cur, hv, _, hg, hnc, hm, _⟩
  · omega
  · unfold maxLen at hm; omega
theorem manyB_wrL (m : Mm) (a : Nat) (l : List Nat) : manyB (wrL m a l) a l.length = l := by
  refine List.ext_getElem (manyB_len _ _ _) fun i h1 h2 => ?_
  rw [manyB_get, wrL_by, dif_pos ⟨by omega, by omega⟩]
  congr 1
  omega
theorem mks_small {m : Mm} (h : Okm m) {g : Nat} (hg : g ∈ m.mks) : 32 * g + 32 ≤ 16777216 := by
  have := h.pl _ (h.ml g hg)
  omega
theorem put_good {m : Mm} (h : Okm m) {a : Nat} {l : List Nat} (h0 : 0 < l.length) (h1 : l.length ≤ 600) (ha : allB m a l.length = true) :
    putF m (a : Int) l = (wrL m a l, 0) ∧ bytesF (wrL m a l) (a : Int) (l.length : Int) = l ∧ a + l.length ≤ 16777216 ∧ ∀ x ∈ (wrL m a l).mks.map (32 * ·), x + 32 ≤ 16777216 ∧ ¬ (x < a + l.length ∧ a < x + 32) := by
  refine ⟨by unfold putF; rw [Int.toNat_natCast, if_pos ha], ?_, allB_small h h0 ha, fun x hx => ?_⟩
  · unfold bytesF
    rw [if_neg (by omega), Int.toNat_natCast, Int.toNat_natCast, allB_wrL, if_pos ha, manyB_wrL]
  · obtain ⟨g, hg, rfl⟩ := List.mem_map.1 hx
    rw [wrL_mk m a l (fun e => by rw [e] at h0; exact absurd h0 (by decide))] at hg
    obtain ⟨h2, h3⟩ := List.mem_filter.1 hg
    refine ⟨mks_small h h2, fun ⟨h4, h5⟩ => ?_⟩
    have : inGr a l.length g = true := by
      unfold inGr
      rw [decide_eq_true (by omega), decide_eq_true (by omega)]
      rfl
    rw [this] at h3
    cases h3
theorem put_ill {m : Mm} {a : Nat} {l : List Nat} (ha : ¬ allB m a l.length = true) : putF m (a : Int) l = (m, 30) ∧ bytesF m (a : Int) (l.length : Int) = [] := by
  refine ⟨by unfold putF; rw [Int.toNat_natCast, if_neg ha], ?_⟩
  unfold bytesF
  split
  · rfl
  · rw [Int.toNat_natCast, Int.toNat_natCast, if_neg ha]
set_option maxRecDepth 100000 in
set_option maxHeartbeats 2000000 in
theorem TagmemPut_walk (W : World) (b : Int) (la : Option Addr) (lc : Nat) (l : List Opr) (hl : RdP W W.heap.size la l) (at_ : Int) (ha0 : 0 ≤ at_) (ha1 : at_ < 18446744073709551616) (sa : Option Addr) (sc : Nat) (bs : List Nat) (hs : Rd W sa bs.length (u8s bs)) (hbl : ∀ b ∈ bs, b < 256) (hm : bs.length ≤ maxLen) (hc : bs.length ≤ sc) :
    Calls Try.prog 8 #[.int .i64 b, .slice la l.length lc, .int .u64 at_, .slice sa bs.length sc] W fun e W' => e = .returned (.bool true) ∧ Below W.heap.size W W' := by
  obtain ⟨a, rfl⟩ : ∃ a : Nat, at_ = a := ⟨at_.toNat, by omega⟩
  have HL := Lib.hid hl
  have HS := Lib.hid hs
  have HBL := Lib.hid hbl
  have hmx : bs.length < 9223372036854775808 := by unfold maxLen at hm; omega
  have HMA := Lib.hid (fun W1 (h : RdP W1 W1.heap.size la l) => made_any W1 b la lc l h)
  obtain ⟨ll, hll⟩ : ∃ n, l.length = n := ⟨_, rfl⟩
  rw [hll] at HMA ⊢
  obtain ⟨n, hn⟩ : ∃ n, bs.length = n := ⟨_, rfl⟩
  rw [hn] at HS hc hmx ⊢
  clear hl hs hbl hm hll
  have HC := Lib.hid hc
  clear hc
  go_enter Try.func8, Try.ntmps8
  go_wp2_with fail
  refine (awake_any _).mono ?_
  rintro e W1 ⟨rfl, hb1⟩
  have HB1 := Lib.hid hb1
  have HM := Lib.hid (HMA.out W1 ((HL.out.below hb1).mono hb1.size))
  clear hb1 HMA
  go_wp2_with fail
  refine HM.out.mono ?_
  rintro e W2 ⟨⟨hno, rfl⟩ | ⟨hno, M, rfl, hso⟩, hb2⟩
  · have HB2 := Lib.hid (HB1.out.trans (hb2.mono HB1.out.size))
    clear hno hb2
    go_wp2_with fail
    go_ret
    exact ⟨rfl, HB2.out⟩
  · have HB2 := Lib.hid (HB1.out.trans (hb2.mono HB1.out.size))
    obtain ⟨F, ho⟩ := hso.own
    have O2 := Lib.hid (ho.low HB1.out.size)
    clear ho hso hb2 hno HM
    by_cases h6 : 600 < n
    · have h6z : (600 : Int) < (n : Int) := by omega
      go_wp2_with fail
      go_ret
      exact ⟨rfl, HB2.out⟩
    have h6z : ¬ (600 : Int) < (n : Int) := by omega
    rcases Nat.eq_zero_or_pos n with h0 | h0
    · have h0z : (n : Int) = 0 := by omega
      go_wp2_with fail
      go_ret
      exact ⟨rfl, HB2.out⟩
    have h0z : ¬ (n : Int) = 0 := by omega
    have h0b : ((n : Int) == 0) = false := by simpa using h0z
    have hcd : (decide ((600 : Int) < (n : Int)) || (n : Int) == 0) = false := by rw [h0b, decide_eq_false h6z]; rfl
    have HA : Hid (0 ≤ (a : Int) ∧ (a : Int) < 18446744073709551616) := Lib.hid ⟨ha0, ha1⟩
    have ha : a < 18446744073709551616 := by omega
    clear ha0 ha1
    have OK := Lib.hid O2.out.ok
    obtain ⟨m, hmm⟩ : ∃ m, madeM b l = m := ⟨_, rfl⟩
    rw [hmm] at O2 OK
    clear hmm
    have X2 := Lib.hid (RdX.mine O2.out HB2.out HS.out)
    have C := Lib.hid (sput_any W2 W.heap.size M F m O2.out a n sc sa bs ha hn HC.out hmx HBL.out X2.out.1 (fun h0 g off e => (X2.out.2 g off h0 e).1))
    have HAA := Lib.hid ha
    clear ha
    by_cases hall : allB m a bs.length = true
    · obtain ⟨g1, g2, g3, g4⟩ := put_good OK.out (by omega) (by omega) hall
      rw [g1] at C
      dsimp only at C
      rw [hn] at g2 g3 g4
      have G4 := Lib.hid g4
      obtain ⟨m1, hm1⟩ : ∃ m1, wrL m a bs = m1 := ⟨_, rfl⟩
      rw [hm1] at C G4 g2
      have G2 := Lib.hid g2
      have G3 := Lib.hid g3
      clear g1 g2 g3 g4 hm1 hall
      have HN := Lib.hid hn
      have H0 := Lib.hid h0
      have H6 := Lib.hid h6
      clear hn h0 h6
      go_wp2_with fail
      refine C.out.mono ?_
      rintro e W3 ⟨rfl, F3, h1, m1'⟩
      have B3 := Lib.hid (HB2.out.trans (m1'.belowN O2.out))
      have X3 := Lib.hid (X2.out.move m1')
      have O3 := Lib.hid h1
      clear h1 m1' C O2 OK
      have C := Lib.hid (sbytes_any W3 W.heap.size M F3 m1 O3.out a (n : Int) HAA.out (by omega) (by omega))
      rw [G2.out, HN.out] at C
      go_wp2_with fail
      refine C.out.mono ?_
      rintro e W4 ⟨⟨ra, rc, rfl, hor⟩, hb⟩
      have Y4 := Lib.hid (RdX.new O3.out hor)
      have X4 := Lib.hid (X3.out.move (Moves.of_below F3 hb))
      have O4 := Lib.hid (O3.out.below hb)
      have B4 := Lib.hid (B3.out.trans (hb.mono O3.out.sz))
      clear hb hor C
      have C := Lib.hid (stags_any W4 W.heap.size M F3 m1 O4.out)
      obtain ⟨L, hL⟩ : ∃ L, m1.mks.map (32 * ·) = L := ⟨_, rfl⟩
      obtain ⟨q, hq⟩ : ∃ q, m1.mks.length = q := ⟨_, rfl⟩
      have HLq : Hid (L.length = q) := Lib.hid (by rw [← hL, List.length_map, hq])
      rw [hL, hq] at C
      rw [hL] at G4
      clear hL hq
      go_wp2_with fail
      refine C.out.mono ?_
      rintro e W5 ⟨ya, yc, rfl, hor, hb⟩
      have Z5 := Lib.hid (RdX.new O4.out hor)
      have Y5 := Lib.hid (Y4.out.move (Moves.of_below F3 hb))
      have X5 := Lib.hid (X4.out.move (Moves.of_below F3 hb))
      have B5 := Lib.hid (B4.out.trans (hb.mono O4.out.sz))
      have hq0 := own_max hor
      clear hb hor C
      go_wp2_with fail
      go_loopw [14] (fun i wr => ∃ k : Nat, i = .int .i64 k ∧ k ≤ q ∧ W5 = wr) (fun i _ => q - (intOf i).toNat)
      case atStart => exact ⟨0, rfl, by omega, rfl⟩
      case round =>
        obtain ⟨k, rfl, hk, rfl⟩ := hrel
        by_cases hlt : k < q
        · obtain ⟨b1, o1, e1, hb1, d0⟩ := Z5.out.1.at_ hlt
          have hkl : k < L.length := by rw [HLq.out]; exact hlt
          rw [u64s_get L k hkl] at d0
          have hx := G4.out _ (List.getElem_mem hkl)
          have g3 := G3.out
          obtain ⟨x, hxx⟩ : ∃ x, L[k] = x := ⟨_, rfl⟩
          rw [hxx] at d0 hx
          subst e1
          have kk0 : (0 : Int) ≤ (k : Int) := by omega
          have kk1 : (k : Int) < (q : Int) := by omega
          have w1 : IntKind.u64.wrap (n : Int) = (n : Int) := by rw [IntKind.wrap_u64]; omega
          have w2 : IntKind.u64.wrap ((a : Int) + (n : Int)) = (a : Int) + (n : Int) := by rw [IntKind.wrap_u64]; omega
          have w3 : IntKind.u64.wrap ((x : Int) + 32) = (x : Int) + 32 := by rw [IntKind.wrap_u64]; omega
          have hxi : (x : Int) < (a : Int) + (n : Int) → ¬ (a : Int) < (x : Int) + 32 := by omega
          have HXI := Lib.hid hxi
          clear hb1 hxx hx g3 hxi
          by_cases hxa : (x : Int) < (a : Int) + (n : Int)
          · have hxb := HXI.out hxa
            go_wp2_with fail
            go_roundw
            case rel => exact ⟨k + 1, by go_num, by omega, trivial⟩
            case measure => simp [intOf]; omega
          · go_wp2_with fail
            go_roundw
            case rel => exact ⟨k + 1, by go_num, by omega, trivial⟩
            case measure => simp [intOf]; omega
        · obtain rfl : k = q := by omega
          have C := Lib.hid (same_any sa ra n sc n rc bs bs W5 X5.out.1 Y5.out.1 (by omega) (by omega))
          go_wp2_with fail
          refine C.out.mono ?_
          rintro e W6 ⟨rfl, hqq⟩
          have B6 : Hid (Below W.heap.size W W6) := by obtain ⟨nn, rfl⟩ := hqq; exact Lib.hid (B5.out.trans ((below_drewN W5 nn).mono B5.out.size))
          clear hqq
          go_wp2_with fail
          go_ret
          exact ⟨by simp, B6.out⟩
    · obtain ⟨g1, g2⟩ := put_ill hall
      rw [g1] at C
      dsimp only at C
      rw [hn] at g2
      have G2 := Lib.hid g2
      clear g1 g2 hall
      have HN := Lib.hid hn
      have H0 := Lib.hid h0
      have H6 := Lib.hid h6
      clear hn h0 h6
      go_wp2_with fail
      refine C.out.mono ?_
      rintro e W3 ⟨rfl, F3, h1, m1'⟩
      have B3 := Lib.hid (HB2.out.trans (m1'.belowN O2.out))
      have O3 := Lib.hid h1
      clear h1 m1' C O2 OK
      have C := Lib.hid (sbytes_any W3 W.heap.size M F3 m O3.out a (n : Int) HAA.out (by omega) (by omega))
      rw [G2.out] at C
      go_wp2_with fail
      refine C.out.mono ?_
      rintro e W4 ⟨⟨ra, rc, rfl, hor⟩, hb⟩
      have B4 := Lib.hid (B3.out.trans (hb.mono O3.out.sz))
      clear hb hor C
      go_wp2_with fail
      go_ret
      exact ⟨by simp, B4.out⟩
end Go.Proofs.Ytgfkjlknkbdjiaa
