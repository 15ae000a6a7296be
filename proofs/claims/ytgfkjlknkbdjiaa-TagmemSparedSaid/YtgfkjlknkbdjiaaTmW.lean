/- The document's memory: pages are mapped: contract. -/
import Derived.Test.YtgfkjlknkbdjiaaTmV
namespace Go.Proofs.Ytgfkjlknkbdjiaa
set_option linter.unusedVariables false
set_option linter.unusedSimpArgs false
open Go.Joins Go.ChangeShapes Go.WideShapes Go.ChangeAt Go.RowKit Go.Deep

theorem rmap_step {W U : World} {R : Nat} {F : Nat → Prop} {m : Mm} {na ca ka : Option Addr} {nc cc kc : Nat} {cs : List (Nat × Nat)} (h : RmO W R F m na ca ka nc cc kc cs) {p : Nat} (hp : p ∉ m.pgs) (hp1 : p < 65536) (hl : m.pgs.length < m.bud) (hb : Below W.heap.size W U) {ra : Option Addr} {rc : Nat}
    (ho : U.ownsRow W.heap.size 39 1 (.slice ra (ins p m.pgs).length rc) (ins p m.pgs).length (u64s (ins p m.pgs))) :
    RmAt (U.setCell ⟨R, 0, none⟩ (.slice ra (ins p m.pgs).length rc)) R (FN F W (U.setCell ⟨R, 0, none⟩ (.slice ra (ins p m.pgs).length rc))) (addP m p) ∧ KP W.heap.size F W (U.setCell ⟨R, 0, none⟩ (.slice ra (ins p m.pgs).length rc)) := by
  have hR : R < W.heap.size := h.lt _ h.fr
  have hk : KP W.heap.size (· = R) W (U.setCell ⟨R, 0, none⟩ (.slice ra (ins p m.pgs).length rc)) := (KP.of_below (· = R) hb).set ⟨R, 0, none⟩ (Or.inr rfl) _
  have hbx : BoxN (U.setCell ⟨R, 0, none⟩ (.slice ra (ins p m.pgs).length rc)) R #[.slice ra (ins p m.pgs).length rc, .slice ca cs.length cc, .slice ka m.mks.length kc, .int .i64 (m.bud : Int)] := (boxN_below h.box hb).set 0 (.slice ra (ins p m.pgs).length rc)
  have ho2 := own_kp2 ho (KP.set1 U R 0 (.slice ra (ins p m.pgs).length rc)) (by intro q hq e; have h1 : q = R := e; omega)
  refine ⟨⟨ra, ca, ka, rc, cc, kc, cs, okm_addP h.ok hp hp1 hl, hbx, ?_, ?_, ?_, ⟨h.co.look, fun x hx => ⟨(mem_ins p _ _).2 (Or.inr (h.co.in_ x hx).1), (h.co.in_ x hx).2⟩, h.co.nd⟩, Or.inl h.fr, fun q hq => ?_⟩, hk.mono (Nat.le_refl _) (fun q _ e => by rw [show q = R from e]; exact h.fr)⟩
  · have := rdF_own (F := F) (R := R) ho2 (Nat.le_refl _) hR
    rw [Nat.mul_one] at this
    exact this
  · exact (h.rc.blocks (fun q hf hne => hk.block q (h.lt q hf) hne) hk.size).mono (fun q hf => Or.inl hf)
  · exact (h.rk.blocks (fun q hf hne => hk.block q (h.lt q hf) hne) hk.size).mono (fun q hf => Or.inl hf)
  · rcases hq with hq | hq
    · exact Nat.lt_of_lt_of_le (h.lt q hq) hk.size
    · exact hq.2
theorem fn_step {F : Nat → Prop} {W wr W3 : World} (hW : W.heap.size ≤ wr.heap.size) (h3 : wr.heap.size ≤ W3.heap.size) : ∀ q, FN (FN F W wr) wr W3 q → FN F W W3 q := fun q hq => by
  rcases hq with (hq | hq) | hq
  · exact Or.inl hq
  · exact Or.inr ⟨hq.1, by omega⟩
  · exact Or.inr ⟨by omega, hq.2⟩
set_option maxRecDepth 100000 in
set_option maxHeartbeats 2000000 in
theorem rmap_any (W : World) (R : Nat) (F : Nat → Prop) (m : Mm) (h : RmAt W R F m) (f n : Int) (hf0 : 0 ≤ f) (hf1 : f < 18446744073709551616) (hn0 : -9223372036854775808 ≤ n) (hn1 : n < 9223372036854775808) :
    Calls Try.prog 41 #[.pointer (some ⟨R, 0, none⟩), .int .u64 f, .int .i64 n] W fun e W' => e = .returned (.int .i64 (mapF m f n).2) ∧ RmAt W' R (FN F W W') (mapF m f n).1 ∧ KP W.heap.size F W W' := by
  have HA := Lib.hid (wrong_any f n W hf0 hf1 hn0 hn1)
  have HM0 : Hid (RmAt W R (FN F W W) m) := Lib.hid (h.mono (fun q hq => Or.inl hq) (fun q hq => by rcases hq with hq | hq; exact h.lt q hq; exact hq.2))
  clear hn0 hn1
  cases hbad : badP f n with
  | true =>
    have hp : mapF m f n = (m, 1) := by unfold mapF; rw [if_pos hbad]
    rw [hp]
    rw [hbad] at HA
    clear hp hbad h
    go_enter Try.func41, Try.ntmps41
    go_wp2_with fail
    refine HA.out.mono ?_; rintro e W0 ⟨rfl, rfl⟩
    go_wp2_with fail
    go_ret
    exact ⟨rfl, HM0.out, KP.refl _ _ _⟩
  | false =>
    rw [hbad] at HA
    obtain ⟨g1, g2, g3, g4⟩ : 1 ≤ n ∧ n ≤ 65536 ∧ f < 65536 ∧ f + n ≤ 65536 := by
      unfold badP at hbad
      simp only [Bool.or_eq_false_iff, decide_eq_false_iff_not] at hbad
      omega
    obtain ⟨f, rfl⟩ := Int.eq_ofNat_of_zero_le hf0
    obtain ⟨n, rfl⟩ := Int.eq_ofNat_of_zero_le (show 0 ≤ n by omega)
    have hfn : f + n ≤ 65536 := by omega
    have hn : 0 < n := by omega
    clear hf0 hf1 g1 g2 g3 g4
    obtain ⟨na, ca, ka, nc, cc, kc, cs, hO⟩ := id h
    have c0 : W.cell? ⟨R, 0, none⟩ = some (.slice na m.pgs.length nc) := hO.box.cell 0
    have c3 : W.cell? ⟨R, 3, none⟩ = some (.int .i64 (m.bud : Int)) := hO.box.cell 3
    have HRN := Lib.hid hO.rn.1
    have hl := h.ok.len
    have hbd := h.ok.bud
    obtain ⟨u, hu⟩ : ∃ z, m.pgs.length = z := ⟨_, rfl⟩
    obtain ⟨v, hv⟩ : ∃ z, m.bud = z := ⟨_, rfl⟩
    rw [hu] at c0 HRN hl
    rw [hv] at c3 hl hbd
    have HU := Lib.hid hu
    have HV := Lib.hid hv
    have HBAD := Lib.hid hbad
    have HOK := Lib.hid h.ok
    have HFL := Lib.hid h.lt
    clear hO hu hv hbad h
    go_enter Try.func41, Try.ntmps41
    go_wp2_with fail
    refine HA.out.mono ?_; rintro e W0 ⟨rfl, rfl⟩
    go_wp2_with fail
    go_loop [8, 9] (fun i _ => ∃ k : Nat, i = .int .i64 k ∧ k ≤ n ∧ Hid (∀ j, j < k → f + j ∉ m.pgs)) (fun i _ => n - (intOf i).toNat)
    case atStart => exact ⟨0, rfl, by omega, Lib.hid (fun j hj => by omega)⟩
    case round =>
      obtain ⟨k, rfl, hk, HT⟩ := hrel
      by_cases hlt : k < n
      · have HC := Lib.hid (rhas_any na u nc m.pgs (f + k) W HRN.out (by omega))
        have w5 : IntKind.u64.wrap (k : Int) = (k : Int) := by rw [IntKind.wrap_u64]; omega
        have w6 : IntKind.u64.wrap ((f : Int) + (k : Int)) = (f : Int) + (k : Int) := by rw [IntKind.wrap_u64]; omega
        rw [show ((f + k : Nat) : Int) = (f : Int) + (k : Int) by omega] at HC
        have kk1 : (k : Int) < (n : Int) := by omega
        by_cases hin : f + k ∈ m.pgs
        · rw [decide_eq_true hin] at HC
          have hp : mapF m (f : Int) (n : Int) = (m, 32) := by
            unfold mapF
            rw [if_neg (by rw [HBAD.out]; decide), Int.toNat_natCast, Int.toNat_natCast, if_pos (show anyIn m f n = true from List.any_eq_true.2 ⟨k, List.mem_range.2 hlt, decide_eq_true hin⟩)]
          have HPP := Lib.hid hp
          clear hin hp
          go_wp2_with fail
          refine HC.out.mono ?_; rintro e W1 ⟨rfl, rfl⟩
          go_wp2_with fail
          go_ret
          rw [HPP.out]
          exact ⟨rfl, HM0.out, KP.refl _ _ _⟩
        · rw [decide_eq_false hin] at HC
          have HT2 : Hid (∀ j, j < k + 1 → f + j ∉ m.pgs) := Lib.hid (fun j hj => by
            by_cases e : j = k
            · rw [e]; exact hin
            · exact HT.out j (by omega))
          clear hin
          go_wp2_with fail
          refine HC.out.mono ?_; rintro e W1 ⟨rfl, rfl⟩
          go_wp2_with fail
          go_round
          case rel => exact ⟨k + 1, by go_num, by omega, HT2⟩
          case measure => simp [intOf]; omega
      · obtain rfl : n = k := by omega
        have HAN : Hid (anyIn m f n = false) := Lib.hid (by
          rw [Bool.eq_false_iff]
          intro hh
          obtain ⟨j, hj, hd⟩ := List.any_eq_true.1 hh
          exact HT.out j (List.mem_range.1 hj) (of_decide_eq_true hd))
        have w0 : IntKind.i64.wrap ((u : Int) + (n : Int)) = (u : Int) + (n : Int) := by rw [IntKind.wrap_i64]; omega
        by_cases hb : v < u + n
        · have hbi : (v : Int) < (u : Int) + (n : Int) := by omega
          have hp : mapF m (f : Int) (n : Int) = (m, 33) := by
            unfold mapF
            rw [if_neg (by rw [HBAD.out]; decide), Int.toNat_natCast, Int.toNat_natCast, if_neg (by rw [HAN.out]; decide), if_pos (by rw [HU.out, HV.out]; exact hb)]
          have HPP := Lib.hid hp
          clear hp
          go_wp2_with fail
          go_quiet (fail)
          go_wp2_with fail
          go_ret
          rw [HPP.out]
          exact ⟨rfl, HM0.out.below (below_dN _ _), KP.of_below _ (below_dN _ _)⟩
        · have hbi : ¬ (v : Int) < (u : Int) + (n : Int) := by omega
          have hp : mapF m (f : Int) (n : Int) = (addN m f n, 0) := by
            unfold mapF
            rw [if_neg (by rw [HBAD.out]; decide), Int.toNat_natCast, Int.toNat_natCast, if_neg (by rw [HAN.out]; decide), if_neg (by rw [HU.out, HV.out]; exact hb)]
          have HPP := Lib.hid hp
          have HBU : Hid (m.pgs.length + n ≤ m.bud) := Lib.hid (by rw [HU.out, HV.out]; omega)
          clear hp
          go_wp2_with fail
          go_quiet (fail)
          go_wp2_with fail
          go_loopw [10] (fun i wr => ∃ k : Nat, i = .int .i64 k ∧ k ≤ n ∧ Hid (RmAt wr R (FN F W wr) (addN m f k)) ∧ Hid (KP W.heap.size F W wr)) (fun i _ => n - (intOf i).toNat)
          case atStart => exact ⟨0, rfl, by omega, Lib.hid (HM0.out.below (below_dN _ _)), Lib.hid (KP.of_below _ (below_dN _ _))⟩
          case round =>
            obtain ⟨k, rfl, hk, HM, HK⟩ := hrel
            clear c0 c3
            by_cases hlt : k < n
            · obtain ⟨na, ca, ka, nc, cc, kc, cs, hO⟩ := HM.out
              have hno : f + k ∉ (addN m f k).pgs := fun e => by
                rcases (addN_mem m f k _).1 e with q | q
                · omega
                · exact HT.out k hlt q
              have hl2 : (addN m f k).pgs.length < (addN m f k).bud := by rw [(addN_len m f k).1, (addN_len m f k).2.1]; have := HBU.out; omega
              have HST := Lib.hid (fun (U : World) (hb : Below wr.heap.size wr U) (ra : Option Addr) (rc : Nat) ho => rmap_step hO hno (by omega) hl2 hb (ra := ra) (rc := rc) ho)
              have c0 : wr.cell? ⟨R, 0, none⟩ = some (.slice na (addN m f k).pgs.length nc) := hO.box.cell 0
              have HBX := Lib.hid hO.box
              have hl3 := hO.ok.len
              have hl4 := hO.ok.bud
              obtain ⟨z, hz⟩ : ∃ z, (addN m f k).pgs.length = z := ⟨_, rfl⟩
              have hrn := hO.rn.1
              rw [hz] at c0 hl3 hrn HBX
              have HC := Lib.hid (rput_any na z nc (addN m f k).pgs (f + k) wr hrn (by omega))
              rw [length_ins, hz] at HC
              simp only [length_ins, hz] at HST
              have w5 : IntKind.u64.wrap (k : Int) = (k : Int) := by rw [IntKind.wrap_u64]; omega
              have w6 : IntKind.u64.wrap ((f : Int) + (k : Int)) = (f : Int) + (k : Int) := by rw [IntKind.wrap_u64]; omega
              rw [show ((f + k : Nat) : Int) = (f : Int) + (k : Int) by omega] at HC
              have kk1 : (k : Int) < (n : Int) := by omega
              have hsz := HK.out.size
              clear hO hno hl2 hl3 hl4 hrn hz HM
              go_wp2_with fail
              refine HC.out.mono ?_; rintro e U ⟨⟨ra, rc, rfl, hown⟩, hb⟩
              have hst := HST.out U hb ra rc hown
              have hbx := boxN_below HBX.out hb
              have t0 : U.cell? ⟨R, 0, none⟩ = some (.slice na z nc) := hbx.cell 0
              have tz : U.frozen? ⟨R, 0, none⟩ = false := hbx.frozen 0
              have hsu := hb.size
              have HST2 := Lib.hid hst
              clear hown hb hst hbx c0
              go_wp2_with fail
              obtain ⟨W3, hW3⟩ : ∃ W3, U.setCell ⟨R, 0, none⟩ (.slice ra (z + 1) rc) = W3 := ⟨_, rfl⟩
              rw [hW3] at HST2 ⊢
              have hs3 := HST2.out.2.size
              have HM3 : Hid (RmAt W3 R (FN F W W3) (addN m f (k + 1))) := Lib.hid (HST2.out.1.mono (fn_step hsz hs3) (fun q hq => by
                rcases hq with hq | hq
                · have := HFL.out q hq; omega
                · exact hq.2))
              have HK3 : Hid (KP W.heap.size F W W3) := Lib.hid (HK.out.trans (HST2.out.2.mono hsz (fun q hq e => by
                rcases e with e | e
                · exact e
                · omega)))
              clear hW3 t0 tz
              go_roundw
              case rel => exact ⟨k + 1, by go_num, by omega, HM3, HK3⟩
              case measure => simp [intOf]; omega
            · obtain rfl : n = k := by omega
              go_wp2_with fail
              go_ret
              rw [HPP.out]
              exact ⟨rfl, HM.out, HK.out⟩
end Go.Proofs.Ytgfkjlknkbdjiaa
