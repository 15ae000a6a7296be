/- All that is done answers as the document says: contract. -/
import Derived.Test.YtgfkjlknkbdjiaaTmL6
namespace Go.Proofs.Ytgfkjlknkbdjiaa
set_option linter.unusedVariables false
set_option linter.unusedSimpArgs false
open Go.Joins Go.ChangeShapes Go.WideShapes Go.ChangeAt Go.RowKit Go.Deep

set_option maxRecDepth 100000 in
set_option maxHeartbeats 2000000 in
theorem TagmemPlays_walk (W : World) (b : Int) (la : Option Addr) (lc : Nat) (l : List Opr) (hl : RdP W W.heap.size la l) :
    Calls Try.prog 3 #[.int .i64 b, .slice la l.length lc] W fun e W' => e = .returned (.bool true) ∧ Below W.heap.size W W' := by
  have HL := Lib.hid hl
  have HPL := Lib.hid (fun W1 N M R (h : Two W1 N M R (emptyM b.toNat) (emptyM b.toNat)) (h2 : RdP W1 N la l) (h3 : l.length ≤ 60) => play_any W1 N M R (emptyM b.toNat) h la lc l h2 (by omega))
  obtain ⟨n, hn⟩ : ∃ n, l.length = n := ⟨_, rfl⟩
  rw [hn] at HPL ⊢
  clear hl hn
  go_enter Try.func3, Try.ntmps3
  go_wp2_with fail
  refine (awake_any _).mono ?_
  rintro e W1 ⟨rfl, hb1⟩
  have HB1 := Lib.hid hb1
  clear hb1
  go_wp2_with fail
  refine (new_any b W1).mono ?_
  rintro e W2 (⟨hb, rfl, rfl⟩ | ⟨hb, M, rfl, hMM, hMA, hB1⟩)
  · have HBD := Lib.hid hb
    clear hb
    go_wp2_with fail
    refine (rnew_any b W1).mono ?_
    rintro e W2 (⟨hb2, rfl, rfl⟩ | ⟨hb2, _⟩)
    · clear hb2
      by_cases h6 : 60 < n
      · have h6z : (60 : Int) < (n : Int) := by omega
        go_wp2_with fail
        go_ret
        exact ⟨by simp, HB1.out⟩
      · have h6z : ¬ (60 : Int) < (n : Int) := by omega
        go_wp2_with fail
        go_ret
        exact ⟨by simp, HB1.out⟩
    · rw [HBD.out] at hb2
      cases hb2
  · have HBD := Lib.hid hb
    have HMA := Lib.hid hMA
    have HB2 := Lib.hid hB1
    clear hb hMA hB1
    go_wp2_with fail
    refine (rnew_any b W2).mono ?_
    rintro e W3 (⟨hb2, _⟩ | ⟨hb2, R, rfl, hRR, hRA, hB2⟩)
    · rw [HBD.out] at hb2
      cases hb2
    · have ht := two_new HMA.out HB2.out hRA hB2
      have HT := Lib.hid ht.1
      have HB := Lib.hid (HB1.out.trans (ht.2.mono HB1.out.size))
      have HR := Lib.hid (((HL.out.below HB1.out).mono HB1.out.size).below ht.2)
      clear ht hRA hB2 hb2 hMM hRR HB2 HMA
      by_cases h6 : 60 < n
      · have h6z : (60 : Int) < (n : Int) := by omega
        go_wp2_with fail
        go_ret
        exact ⟨by simp, HB.out⟩
      · have h6z : ¬ (60 : Int) < (n : Int) := by omega
        have HP := Lib.hid (HPL.out W3 _ M R HT.out HR.out (by omega))
        obtain ⟨m, hm⟩ : ∃ m, l.foldl stepM (emptyM b.toNat) = m := ⟨_, rfl⟩
        rw [hm] at HP
        clear hm HPL
        go_wp2_with fail
        refine HP.out.mono ?_
        rintro e W4 ⟨rfl, hT4, hB4⟩
        have HB4 := Lib.hid (HB.out.trans (hB4.mono HB1.out.size))
        obtain ⟨F, G, hM4, hR4, hd, hF, hG, hN⟩ := hT4
        have O4 := Lib.hid (show Own1 W4 W1.heap.size F M m from ⟨hM4, hF, hN⟩)
        obtain ⟨na, ca, ka, nc, cc, kc, cs, hR⟩ := hR4
        have X4 := Lib.hid hR.box
        have N4 := Lib.hid hR.rn.1
        have K4 := Lib.hid hR.rk.1
        clear hR hM4 hd hF hG hN hB4 HP HT HR
        have C := Lib.hid (spages_any W4 W1.heap.size M F m O4.out)
        have D := Lib.hid (fun W5 (hb : Below W4.heap.size W4 W5) => stags_any W5 W1.heap.size M F m (O4.out.below hb))
        have HGP : Hid (∃ x, m.pgs = x) := Lib.hid ⟨_, rfl⟩
        obtain ⟨P, hP⟩ : ∃ x, m.pgs = x := ⟨_, rfl⟩
        obtain ⟨T, hT⟩ : ∃ x, m.mks.map (32 * ·) = x := ⟨_, rfl⟩
        have hT2 : m.mks.length = T.length := by rw [← hT, List.length_map]
        rw [hP] at C N4 X4
        rw [hT2] at D X4 K4
        rw [hT] at D K4
        clear hP hT hT2 HGP
        obtain ⟨p, hp⟩ : ∃ x, P.length = x := ⟨_, rfl⟩
        obtain ⟨t, ht⟩ : ∃ x, T.length = x := ⟨_, rfl⟩
        rw [hp] at C N4 X4
        rw [ht] at D X4 K4
        clear hp ht
        go_wp2_with fail
        refine C.out.mono ?_
        rintro e W5 ⟨pa, pc, rfl, hor, hb⟩
        have P5 := Lib.hid (RdX.new O4.out hor)
        have hp0 := own_max hor
        have C := Lib.hid (D.out W5 hb)
        have O5 := Lib.hid (O4.out.below hb)
        have X5 := Lib.hid (boxN_below X4.out hb)
        have N5 := Lib.hid (N4.out.below hb)
        have K5 := Lib.hid (K4.out.below hb)
        have HB5 := Lib.hid (HB4.out.trans (hb.mono (by have := HB4.out.size; omega)))
        clear hor hb D X4 N4 K4
        go_wp2_with fail
        refine C.out.mono ?_
        rintro e W6 ⟨ta, tc, rfl, hor, hb⟩
        have T6 := Lib.hid (RdX.new O5.out hor)
        have P6 := Lib.hid (P5.out.1.below hb)
        have ht0 := own_max hor
        have X6 := Lib.hid (boxN_below X5.out hb)
        have N6 := Lib.hid (N5.out.below hb)
        have K6 := Lib.hid (K5.out.below hb)
        have HB6 := Lib.hid (HB5.out.trans (hb.mono (by have := HB5.out.size; omega)))
        clear hor hb C X5 N5 K5 P5
        have w0 : W6.cell? ⟨R, 0, none⟩ = some (.slice na p nc) := X6.out.cell 0
        have w2 : W6.cell? ⟨R, 2, none⟩ = some (.slice ka t kc) := X6.out.cell 2
        have C := Lib.hid (usame_any pa na p pc p nc P P W6 P6.out N6.out (by omega) (by omega))
        go_wp2_with fail
        refine C.out.mono ?_
        rintro e W7 ⟨rfl, hb⟩
        have X7 := Lib.hid (boxN_below X6.out hb)
        have w0' : W7.cell? ⟨R, 0, none⟩ = some (.slice na p nc) := X7.out.cell 0
        have w2' : W7.cell? ⟨R, 2, none⟩ = some (.slice ka t kc) := X7.out.cell 2
        have C := Lib.hid (usame_any ta ka t tc t kc T T W7 (T6.out.1.below hb) (K6.out.below hb) (by omega) (by omega))
        have HB7 := Lib.hid (HB6.out.trans (hb.mono (by have := HB6.out.size; omega)))
        clear hb
        go_wp2_with fail
        refine C.out.mono ?_
        rintro e W8 ⟨rfl, hb⟩
        have HB8 := Lib.hid (HB7.out.trans (hb.mono (by have := HB7.out.size; omega)))
        clear hb
        go_wp2_with fail
        go_ret
        exact ⟨by simp, HB8.out⟩
end Go.Proofs.Ytgfkjlknkbdjiaa
