/- The program's memory: New, Map, Unmap: contracts. -/
import Derived.Test.YteaididdamihlaaTmI
import Derived.Carry
namespace Go.Proofs.Yteaididdamihlaa
set_option linter.unusedVariables false
set_option linter.unusedSimpArgs false
open Go.Joins Go.ChangeShapes Go.WideShapes Go.ChangeAt Go.RowKit Go.Deep

def emptyM (b : Nat) : Mm := ⟨[], fun _ => 0, [], b⟩
theorem okm_empty (b : Nat) (hb : b ≤ 256) : Okm (emptyM b) := ⟨List.Pairwise.nil, by simp [emptyM], by simp [emptyM], hb, fun a => by simp [emptyM], fun a _ => rfl, List.Pairwise.nil, by simp [emptyM]⟩
def badB (b : Int) : Bool := decide (b < 0) || decide (256 < b)
set_option maxRecDepth 20000 in
theorem new_any (b : Int) (W : World) :
    Calls Try.prog 14 #[.int .i64 b] W fun e W' => (badB b = true ∧ e = .returned (.tuple #[.pointer none, .int .i64 1]) ∧ W = W') ∨ (badB b = false ∧ ∃ M, e = .returned (.tuple #[.pointer (some ⟨M, 0, none⟩), .int .i64 0]) ∧ W.heap.size ≤ M ∧ MemAt W' M (fun q => W.heap.size ≤ q ∧ q < W'.heap.size) (emptyM b.toNat) ∧ Below W.heap.size W W') := by
  by_cases h1 : b < 0
  · have hb : badB b = true := by unfold badB; rw [decide_eq_true h1]; rfl
    have HB := Lib.hid hb
    clear hb
    go_enter Try.func14, Try.ntmps14
    go_wp2_with fail
    go_ret2
    exact Or.inl ⟨HB.out, rfl, rfl⟩
  · by_cases h2 : 256 < b
    · have hb : badB b = true := by unfold badB; rw [decide_eq_true h2]; simp
      have HB := Lib.hid hb
      clear hb
      go_enter Try.func14, Try.ntmps14
      go_wp2_with fail
      go_ret2
      exact Or.inl ⟨HB.out, rfl, rfl⟩
    · have hb : badB b = false := by unfold badB; rw [decide_eq_false h1, decide_eq_false h2]; rfl
      have HB := Lib.hid hb
      have hmm := @run_makeMap Try.prog
      have HN : Hid (0 ≤ b ∧ b ≤ 256) := Lib.hid (by omega)
      clear hb
      go_enter Try.func14, Try.ntmps14
      go_wp2_with fail
      go_ret2
      refine Or.inr ⟨HB.out, _, rfl, ?_, ?_, bAlloc (bAlloc (Below.refl _ _) _) _⟩
      · simp
      · refine ⟨W.heap.size, .map [], fun _ => 0, okm_empty _ (by have := HN.out; omega), ?_, (World.ownsMap_made _ _ _ _).alloc _, ⟨fun p _ => by simp [emptyM]; rfl, fun p _ => rfl, rfl⟩, by simp [emptyM], by simp [emptyM], ?_, ?_, by simp [emptyM], fun b hb => hb.2⟩
        · have h := BoxN.new (W.alloc (.map #[] 0)) #[.map (some W.heap.size), .int .i64 b] 60
          rw [size_alloc] at h
          rw [show ((emptyM b.toNat).bud : Int) = b by have := HN.out; show ((b.toNat : Nat) : Int) = b; omega]
          exact h
        · simp
        · simp; omega
theorem zeroP : (pgC (fun _ => 0) (fun _ => false)).toArray = Try.zeroCells78 := by kernel_rfl
theorem MemO.len {W : World} {M B : Nat} {D : DataW Unit} {pb : Nat → Nat} {F : Nat → Prop} {m : Mm} (h : MemO W M B D pb F m) (ty : TypeId) : (Builtin.len_ #[58] ty #[.map (some B)]).run Try.prog W = .ok (.int .i64 (m.pgs.length : Int)) W := by
  have := h.own.len Try.underlying58 ty
  rw [h.says.size] at this
  exact this
set_option maxRecDepth 100000 in
set_option maxHeartbeats 1000000 in
theorem map_any (W : World) (M : Nat) (F : Nat → Prop) (m : Mm) (h : MemAt W M F m) (f n : Int) (hf0 : 0 ≤ f) (hf1 : f < 18446744073709551616) (hn0 : -9223372036854775808 ≤ n) (hn1 : n < 9223372036854775808) :
    Calls Try.prog 45 #[.pointer (some ⟨M, 0, none⟩), .int .u64 f, .int .i64 n] W fun e W' => e = .returned (.int .i64 (mapF m f n).2) ∧ ∃ F', MemAt W' M F' (mapF m f n).1 ∧ (∀ b, F' b → F b ∨ W.heap.size ≤ b) ∧ KP W.heap.size F W W' := by
  obtain ⟨B, D, pb, h⟩ := h
  have HA := Lib.hid (areP_any f n W hf0 hf1 hn0 hn1)
  clear hn0 hn1
  cases hbad : badP f n with
  | true =>
    have hp : mapF m f n = (m, 1) := by unfold mapF; rw [if_pos hbad]
    rw [hp]
    rw [hbad] at HA
    have HM0 := Lib.hid h.at_
    clear hp hbad h
    go_enter Try.func45, Try.ntmps45
    go_wp2_with fail
    refine HA.out.mono ?_; rintro e W0 ⟨rfl, rfl⟩
    go_wp2_with fail
    go_ret
    exact ⟨rfl, F, HM0.out, fun b hb => Or.inl hb, KP.refl _ _ _⟩
  | false =>
    rw [hbad] at HA
    obtain ⟨g1, g2, g3, g4⟩ : 1 ≤ n ∧ n ≤ 65536 ∧ f < 65536 ∧ f + n ≤ 65536 := by
      unfold badP at hbad
      simp only [Bool.or_eq_false_iff, decide_eq_false_iff_not] at hbad
      omega
    obtain ⟨f, rfl⟩ := Int.eq_ofNat_of_zero_le hf0
    obtain ⟨n, rfl⟩ := Int.eq_ofNat_of_zero_le (show 0 ≤ n by omega)
    have hfn : f + n ≤ 65536 := by omega
    have hn : 0 < n := by omega
    clear hf0 hf1 g1 g2 g3 g4
    have HMP := Lib.hid (mapped_any W M B D pb F m h f n hfn)
    have hany := manyP_any m f n
    have hmle := manyP_le m f n
    obtain ⟨mp, hmp⟩ : ∃ z, manyP m f n = z := ⟨_, rfl⟩
    rw [hmp] at HMP hany hmle
    cases han : anyIn m f n with
    | true =>
      have hp : mapF m f n = (m, 32) := by unfold mapF; rw [if_neg (by rw [hbad]; decide), Int.toNat_natCast, Int.toNat_natCast, if_pos han]
      rw [hp]
      rw [han] at hany
      have hmp0 : (0 : Int) < (mp : Int) := by have := of_decide_eq_true hany; omega
      have HM0 := Lib.hid h.at_
      clear hp hbad h hany han hmp
      go_enter Try.func45, Try.ntmps45
      go_wp2_with fail
      refine HA.out.mono ?_; rintro e W0 ⟨rfl, rfl⟩
      go_wp2_with fail
      refine HMP.out.mono ?_; rintro e W0 ⟨rfl, rfl⟩
      go_wp2_with fail
      go_ret
      exact ⟨rfl, F, HM0.out, fun b hb => Or.inl hb, KP.refl _ _ _⟩
    | false =>
      rw [han] at hany
      have hmp0 : mp = 0 := by have := of_decide_eq_false hany; omega
      subst hmp0
      have hlen := fun q => (h.below (below_dN W q)).len 3
      have c0 : W.cell? ⟨M, 0, none⟩ = some (.map (some B)) := h.box.cell 0
      have c1 : W.cell? ⟨M, 1, none⟩ = some (.int .i64 (m.bud : Int)) := h.box.cell 1
      have hbud := h.ok.bud
      have hpl := h.ok.len
      obtain ⟨u, hu⟩ : ∃ z, m.pgs.length = z := ⟨_, rfl⟩
      obtain ⟨v, hv⟩ : ∃ z, m.bud = z := ⟨_, rfl⟩
      rw [hv] at c1 hbud
      simp only [hu] at hlen
      rw [hu, hv] at hpl
      have w0 : IntKind.i64.wrap ((u : Int) + (n : Int)) = (u : Int) + (n : Int) := by rw [IntKind.wrap_i64]; omega
      by_cases hb : v < u + n
      · have hp : mapF m f n = (m, 33) := by unfold mapF; rw [if_neg (by rw [hbad]; decide), Int.toNat_natCast, Int.toNat_natCast, if_neg (by rw [han]; decide), if_pos (by rw [hu, hv]; exact hb)]
        rw [hp]
        have hbi : (v : Int) < (u : Int) + (n : Int) := by omega
        have HM0 := Lib.hid h.at_
        clear hp hbad h hany han hmp hu hv hpl hbud
        go_enter Try.func45, Try.ntmps45
        go_wp2_with fail
        refine HA.out.mono ?_; rintro e W0 ⟨rfl, rfl⟩
        go_wp2_with fail
        refine HMP.out.mono ?_; rintro e W0 ⟨rfl, rfl⟩
        go_wp2_with fail
        go_quiet (fail)
        go_wp2_with fail
        go_ret
        exact ⟨rfl, F, HM0.out.below (below_dN _ _), fun b hb => Or.inl hb, KP.of_below _ (below_dN _ _)⟩
      · have hp : mapF m f n = (addN m f n, 0) := by unfold mapF; rw [if_neg (by rw [hbad]; decide), Int.toNat_natCast, Int.toNat_natCast, if_neg (by rw [han]; decide), if_neg (by rw [hu, hv]; exact hb)]
        rw [hp]
        have hbi : ¬ (v : Int) < (u : Int) + (n : Int) := by omega
        have w1 : IntKind.u64.wrap (n : Int) = (n : Int) := by rw [IntKind.wrap_u64]; omega
        have HNO : Hid (∀ i, i < n → f + i ∉ m.pgs) := Lib.hid (fun i hi e => by
          have : anyIn m f n = true := List.any_eq_true.2 ⟨i, List.mem_range.2 hi, decide_eq_true e⟩
          rw [han] at this
          cases this)
        have HBU : Hid (m.pgs.length + n ≤ m.bud) := Lib.hid (by rw [hu, hv]; omega)
        have HM0 := Lib.hid h
        clear hp hbad h hany han hmp hu hv hpl hbud
        go_enter Try.func45, Try.ntmps45
        go_wp2_with fail
        refine HA.out.mono ?_; rintro e W0 ⟨rfl, rfl⟩
        go_wp2_with fail
        refine HMP.out.mono ?_; rintro e W0 ⟨rfl, rfl⟩
        go_wp2_with fail
        go_quiet (fail)
        go_wp2_with fail
        go_loopw [7, 35] (fun _ iv wr => ∃ k : Nat, iv = .int .u64 k ∧ k ≤ n ∧ Hid (∃ D' pb' F', MemO wr M B D' pb' F' (addN m f k) ∧ (∀ b, F' b → F b ∨ W.heap.size ≤ b)) ∧ Hid (KP W.heap.size F W wr)) (fun _ iv _ => n - (intOf iv).toNat)
        case atStart => exact ⟨0, rfl, by omega, Lib.hid ⟨D, pb, F, HM0.out.below (below_dN _ _), fun b hb => Or.inl hb⟩, Lib.hid (KP.of_below _ (below_dN _ _))⟩
        case round =>
          obtain ⟨k, rfl, hk, HE, HK⟩ := hrel
          clear hlen c0 c1
          obtain ⟨D2, pb2, F2, hM, hF2⟩ := HE.out
          by_cases hlt : k < n
          · have hkk : (k : Int) < (n : Int) := by omega
            have c0 : wr.cell? ⟨M, 0, none⟩ = some (.map (some B)) := hM.box.cell 0
            have w2 : IntKind.u64.wrap ((f : Int) + (k : Int)) = (f : Int) + (k : Int) := by rw [IntKind.wrap_u64]; omega
            have w3 : IntKind.u64.wrap ((k : Int) + 1) = (k : Int) + 1 := by rw [IntKind.wrap_u64]; omega
            have hno : f + k ∉ (addN m f k).pgs := fun e => by
              rcases (addN_mem m f k _).1 e with q | q
              · omega
              · exact HNO.out k hlt q
            obtain ⟨W3, hrun, ⟨D3, hM3⟩, hk3⟩ := hM.add (f + k) hno (by omega) (by rw [(addN_len m f k).1, (addN_len m f k).2.1]; have := HBU.out; omega)
            rw [zeroP, show ((f + k : Nat) : Int) = (f : Int) + (k : Int) by omega] at hrun
            have HE3 : Hid (∃ D' pb' F', MemO W3 M B D' pb' F' (addN m f (k + 1)) ∧ (∀ b, F' b → F b ∨ W.heap.size ≤ b)) := Lib.hid ⟨_, _, _, hM3, fun b hb => by
              rcases hb with hb | hb
              · exact hF2 b hb
              · right; rw [hb]; exact HK.out.size⟩
            have HK3 : Hid (KP W.heap.size F W W3) := Lib.hid (HK.out.trans (hk3.mono HK.out.size (fun b hb e => by rw [show b = B from e]; exact HM0.out.fb)))
            clear hM hno hM3 hk3 hF2 HE HK
            go_wp2_with fail
            go_roundw
            case rel => exact ⟨k + 1, by go_num, by omega, HE3, HK3⟩
            case measure => simp [intOf]; omega
          · obtain rfl : k = n := by omega
            have HM3 : Hid (∃ F', MemAt wr M F' (addN m f k) ∧ ∀ b, F' b → F b ∨ W.heap.size ≤ b) := Lib.hid ⟨F2, hM.at_, hF2⟩
            clear hM hF2 HE
            go_wp2_with fail
            go_ret
            obtain ⟨F', h1, h2⟩ := HM3.out
            exact ⟨rfl, F', h1, h2, HK.out⟩
end Go.Proofs.Yteaididdamihlaa
