/- A page that is mapped is empty: contract. -/
import Derived.Test.YtgfkjlknkbdjiaaTmL6
namespace Go.Proofs.Ytgfkjlknkbdjiaa
set_option linter.unusedVariables false
set_option linter.unusedSimpArgs false
open Go.Joins Go.ChangeShapes Go.WideShapes Go.ChangeAt Go.RowKit Go.Deep

theorem unmap_out (m : Mm) (p : Nat) (hp : p ≤ 65535) : p ∉ (unmapF m (p : Int) 1).1.pgs := by
  have hb : badP (p : Int) 1 = false := by unfold badP; simp; omega
  unfold unmapF
  rw [hb, if_neg (by decide), Int.toNat_natCast, show (1 : Int).toNat = 1 from rfl]
  by_cases h : allIn m p 1 = true
  · rw [if_pos h]
    intro h2
    have := (delN_mem m p 1 p).1 h2
    omega
  · rw [if_neg h]
    intro h2
    refine h ?_
    unfold allIn
    rw [List.all_eq_true]
    intro i hi
    obtain rfl : i = 0 := by have := List.mem_range.1 hi; omega
    exact decide_eq_true h2
theorem map_in (m : Mm) (h : Okm m) (p : Nat) (hp : p ≤ 65535) (hn : p ∉ m.pgs) : mapF m (p : Int) 1 = (m, 33) ∨
    ∃ m2, mapF m (p : Int) 1 = (m2, 0) ∧ bytesF m2 ((p * 256 : Nat) : Int) 256 = List.replicate 256 0 ∧ ∀ x ∈ m2.mks.map (32 * ·), x < 16777216 ∧ x / 256 ≠ p := by
  have hb : badP (p : Int) 1 = false := by unfold badP; simp; omega
  have ha : anyIn m p 1 = false := by
    unfold anyIn
    rw [List.any_eq_false]
    intro i hi
    obtain rfl : i = 0 := by have := List.mem_range.1 hi; omega
    simpa using hn
  unfold mapF
  rw [hb, if_neg (by decide), Int.toNat_natCast, show (1 : Int).toNat = 1 from rfl, ha, if_neg (by decide)]
  split
  · exact Or.inl rfl
  · obtain ⟨-, -, e1, e2⟩ := addN_len m p 1
    refine Or.inr ⟨_, rfl, ?_, fun x hx => ?_⟩
    · have hall : allB (addN m p 1) (p * 256) 256 = true := by
        unfold allB
        rw [List.all_eq_true]
        intro i hi
        have := List.mem_range.1 hi
        refine decide_eq_true ((addN_mem m p 1 _).2 (Or.inl ?_))
        omega
      unfold bytesF
      rw [if_neg (by omega), Int.toNat_natCast, show (256 : Int).toNat = 256 from rfl, hall, if_pos rfl]
      refine List.ext_getElem (by rw [manyB_len, List.length_replicate]) fun i h1 h2 => ?_
      rw [manyB_get, List.getElem_replicate, e1]
      rw [manyB_len] at h1
      exact h.off _ (by rw [show (p * 256 + i) / 256 = p by omega]; exact hn)
    · obtain ⟨g, hg, rfl⟩ := List.mem_map.1 hx
      rw [e2] at hg
      have h1 := h.ml g hg
      have h2 := h.pl _ h1
      refine ⟨by omega, fun e => hn ?_⟩
      rwa [show g / 8 = p by omega] at h1
set_option maxRecDepth 100000 in
set_option maxHeartbeats 2000000 in
theorem TagmemFresh_walk (W : World) (b : Int) (la : Option Addr) (lc : Nat) (l : List Opr) (hl : RdP W W.heap.size la l) (pg : Int) (hp0 : 0 ≤ pg) (hp1 : pg < 18446744073709551616) :
    Calls Try.prog 6 #[.int .i64 b, .slice la l.length lc, .int .u64 pg] W fun e W' => e = .returned (.bool true) ∧ Below W.heap.size W W' := by
  obtain ⟨p, rfl⟩ : ∃ p : Nat, pg = p := ⟨pg.toNat, by omega⟩
  have HL := Lib.hid hl
  have HMA := Lib.hid (fun W1 (h : RdP W1 W1.heap.size la l) => made_any W1 b la lc l h)
  obtain ⟨ll, hll⟩ : ∃ n, l.length = n := ⟨_, rfl⟩
  rw [hll] at HMA ⊢
  clear hl hll
  have HP := Lib.hid hp1
  clear hp0 hp1
  go_enter Try.func6, Try.ntmps6
  go_wp2_with fail
  refine (awake_any _).mono ?_
  rintro e W1 ⟨rfl, hb1⟩
  have HB1 := Lib.hid hb1
  have HM := Lib.hid (HMA.out W1 ((HL.out.below hb1).mono hb1.size))
  clear hb1 HMA
  go_wp2_with fail
  refine HM.out.mono ?_
  rintro e W2 ⟨⟨hno, rfl⟩ | ⟨hno, M, rfl, hso⟩, hb2⟩
  · have HB2 := Lib.hid (HB1.out.trans (hb2.mono HB1.out.size))
    clear hno hb2
    go_wp2_with fail
    go_ret
    exact ⟨rfl, HB2.out⟩
  · have HB2 := Lib.hid (HB1.out.trans (hb2.mono HB1.out.size))
    obtain ⟨F, ho⟩ := hso.own
    have O2 := Lib.hid (ho.low HB1.out.size)
    clear ho hso hb2 hno HM
    by_cases h6 : 65535 < p
    · have h6z : (65535 : Int) < (p : Int) := by omega
      go_wp2_with fail
      go_ret
      exact ⟨rfl, HB2.out⟩
    have h6z : ¬ (65535 : Int) < (p : Int) := by omega
    have hcd : decide ((65535 : Int) < (p : Int)) = false := decide_eq_false h6z
    obtain ⟨m, hmm⟩ : ∃ m, madeM b l = m := ⟨_, rfl⟩
    rw [hmm] at O2
    clear hmm
    have H6 := Lib.hid h6
    have C := Lib.hid (sunmap_any W2 W.heap.size M F m O2.out (p : Int) 1 (by omega) (by omega) (by decide) (by decide))
    have HO := Lib.hid (unmap_out m p (by omega))
    obtain ⟨⟨m1, e1⟩, hm1⟩ : ∃ x, unmapF m (p : Int) 1 = x := ⟨_, rfl⟩
    rw [hm1] at C HO
    dsimp only at C HO
    clear hm1 h6
    go_wp2_with fail
    refine C.out.mono ?_
    rintro e W3 ⟨rfl, F3, h1, mv⟩
    clear hcd h6z
    have B3 := Lib.hid (HB2.out.trans (mv.belowN O2.out))
    have O3 := Lib.hid h1
    clear h1 mv C O2
    have C := Lib.hid (smap_any W3 W.heap.size M F3 m1 O3.out (p : Int) 1 (by omega) HP.out (by decide) (by decide))
    rcases map_in m1 O3.out.ok p (by have := H6.out; omega) HO.out with hi | ⟨m2, hi, hz, hg⟩
    · rw [hi] at C
      dsimp only at C
      clear hi
      go_wp2_with fail
      refine C.out.mono ?_
      rintro e W4 ⟨rfl, F4, h1, mv⟩
      have B4 := Lib.hid (B3.out.trans (mv.belowN O3.out))
      clear h1 mv C
      go_wp2_with fail
      go_ret
      exact ⟨by simp, B4.out⟩
    · rw [hi] at C
      dsimp only at C
      have HZ := Lib.hid hz
      have G := Lib.hid hg
      clear hi hz hg
      go_wp2_with fail
      refine C.out.mono ?_
      rintro e W4 ⟨rfl, F4, h1, mv⟩
      have B4 := Lib.hid (B3.out.trans (mv.belowN O3.out))
      have O4 := Lib.hid h1
      clear h1 mv C O3
      have w1 : IntKind.u64.wrap ((p : Int) * 256) = ((p * 256 : Nat) : Int) := by have := H6.out; rw [IntKind.wrap_u64]; omega
      obtain ⟨pp, hpp⟩ : ∃ x, p * 256 = x := ⟨_, rfl⟩
      rw [hpp] at w1 HZ
      have C := Lib.hid (sbytes_any W4 W.heap.size M F4 m2 O4.out pp 256 (by have := H6.out; omega) (by decide) (by decide))
      rw [HZ.out, List.length_replicate] at C
      obtain ⟨Z, hZ⟩ : ∃ Z, List.replicate 256 (0 : Nat) = Z := ⟨_, rfl⟩
      have HZL : Hid (Z.length = 256 ∧ ∀ i (h : i < Z.length), Z[i] = 0) := Lib.hid (by subst hZ; exact ⟨List.length_replicate .., fun i h => List.getElem_replicate ..⟩)
      rw [hZ] at C
      clear hZ hpp HZ
      go_wp2_with fail
      refine C.out.mono ?_
      rintro e W5 ⟨⟨ra, rc, rfl, hor⟩, hb⟩
      have Y5 := Lib.hid (RdX.new O4.out hor)
      have O5 := Lib.hid (O4.out.below hb)
      have B5 := Lib.hid (B4.out.trans (hb.mono O4.out.sz))
      clear hb hor C O4
      have C := Lib.hid (stags_any W5 W.heap.size M F4 m2 O5.out)
      obtain ⟨L, hL⟩ : ∃ L, m2.mks.map (32 * ·) = L := ⟨_, rfl⟩
      obtain ⟨q, hq⟩ : ∃ q, m2.mks.length = q := ⟨_, rfl⟩
      have HLq : Hid (L.length = q) := Lib.hid (by rw [← hL, List.length_map, hq])
      rw [hL, hq] at C
      rw [hL] at G
      clear hL hq
      go_wp2_with fail
      refine C.out.mono ?_
      rintro e W6 ⟨ya, yc, rfl, hor, hb⟩
      have X6 := Lib.hid (RdX.new O5.out hor)
      have Y6 := Lib.hid (Y5.out.1.below hb)
      have B6 := Lib.hid (B5.out.trans (hb.mono O5.out.sz))
      have hq0 := own_max hor
      clear hb hor C
      go_wp2_with fail
      go_loopw [12] (fun i wr => ∃ k : Nat, i = .int .i64 k ∧ k ≤ 256 ∧ W6 = wr) (fun i _ => 256 - (intOf i).toNat)
      case atStart => exact ⟨0, rfl, by omega, rfl⟩
      case round =>
        obtain ⟨k, rfl, hk, rfl⟩ := hrel
        by_cases hlt : k < 256
        · obtain ⟨b1, o1, e1, hb1, d0⟩ := Y6.out.at_ hlt
          have hkl : k < Z.length := by rw [HZL.out.1]; exact hlt
          rw [u8s_get Z k hkl, HZL.out.2 k hkl, show ((0 : Nat) : Int) = 0 from rfl] at d0
          subst e1
          have kk0 : (0 : Int) ≤ (k : Int) := by omega
          have kk1 : (k : Int) < 256 := by omega
          clear hb1
          go_wp2_with fail
          go_roundw
          case rel => exact ⟨k + 1, by go_num, by omega, trivial⟩
          case measure => simp [intOf]; omega
        · obtain rfl : k = 256 := by omega
          go_wp2_with fail
          go_loopw [13] (fun i wr => ∃ k : Nat, i = .int .i64 k ∧ k ≤ q ∧ W6 = wr) (fun i _ => q - (intOf i).toNat)
          case atStart => exact ⟨0, rfl, by omega, rfl⟩
          case round =>
            obtain ⟨k, rfl, hk, rfl⟩ := hrel
            by_cases hlt : k < q
            · obtain ⟨b1, o1, e1, hb1, d0⟩ := X6.out.1.at_ hlt
              have hkl : k < L.length := by rw [HLq.out]; exact hlt
              rw [u64s_get L k hkl] at d0
              have hx := G.out _ (List.getElem_mem hkl)
              obtain ⟨x, hxx⟩ : ∃ x, L[k] = x := ⟨_, rfl⟩
              rw [hxx] at d0 hx
              subst e1
              have kk0 : (0 : Int) ≤ (k : Int) := by omega
              have kk1 : (k : Int) < (q : Int) := by omega
              obtain ⟨x8, hx8⟩ : ∃ y, x / 256 = y := ⟨_, rfl⟩
              have w2 : (x : Int) / 256 = (x8 : Int) := by omega
              have w3 : IntKind.u64.wrap (x8 : Int) = (x8 : Int) := by rw [IntKind.wrap_u64]; omega
              have w4 : ((x8 : Int) == (p : Int)) = false := beq_eq_false_iff_ne.2 (by omega)
              clear hb1 hxx hx hx8
              go_wp2_with fail
              go_roundw
              case rel => exact ⟨k + 1, by go_num, by omega, trivial⟩
              case measure => simp [intOf]; omega
            · obtain rfl : k = q := by omega
              go_wp2_with fail
              go_ret
              exact ⟨by simp, B6.out⟩
end Go.Proofs.Ytgfkjlknkbdjiaa
