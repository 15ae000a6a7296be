/- HashAlong's walk. -/
import Derived.Test.YtniefpdibmpngaaHasS
import Derived.WalkMore
namespace Go.Proofs.Ytniefpdibmpngaa
set_option linter.unusedVariables false
set_option linter.unusedSimpArgs false
open Go.Joins Go.ChangeShapes Go.WideShapes Go.ChangeAt Go.RowKit

/-- where the walk stands: the table's box, its numbers, the symbols -/
def AlongS (w W : World) (bx : Nat) (a : Option Addr) (l : List Sym) (B C n m : Nat) : Prop :=
  Below w.heap.size w W ∧ W.cell? ⟨bx, 0, none⟩ = some (.slice (some ⟨B, 0, none⟩) n n) ∧ W.cell? ⟨bx, 1, none⟩ = some (.slice (some ⟨C, 0, none⟩) m m) ∧
    Rd W (some ⟨B, 0, none⟩) n (i64s (bucketsZ l n n)) ∧ Rd W (some ⟨C, 0, none⟩) m (i64s (chainZ l n m)) ∧ RdS W a l
theorem AlongS.below {w W W' : World} {bx : Nat} {a : Option Addr} {l : List Sym} {B C n m : Nat} (h : AlongS w W bx a l B C n m) (hb : Below W.heap.size W W') : AlongS w W' bx a l B C n m := by
  obtain ⟨h1, h2, h3, h4, h5, h6⟩ := h
  exact ⟨bTrans h1 hb, (hb.cell (p := ⟨bx, 0, none⟩) (heap_lt_of_cell h2)).trans h2, (hb.cell (p := ⟨bx, 1, none⟩) (heap_lt_of_cell h3)).trans h3, h4.below hb, h5.below hb, h6.below hb⟩
theorem count_take (l : List Sym) (k : Nat) (h : k < l.length) : (l.take (k + 1)).countP shownB = (l.take k).countP shownB + if shownB l[k] = true then 1 else 0 := by
  rw [List.take_succ_eq_append_getElem h, List.countP_append]; simp
theorem wrap_mod_ne (q n b : Nat) (hn : 0 < n) (hn2 : n < 4294967296) (h : q % n = b) : (wrap64 ((q : Int) % (n : Int)) != (b : Int)) = false := by
  rw [wrap_mod_ q n hn hn2, h, bne_eq_false_iff_eq]

set_option maxRecDepth 100000 in
set_option maxHeartbeats 4000000 in
theorem HashAlong_walk (a : Option Addr) (l : List Sym) (c : Nat) (n : Int) (w : World) (hl : RdS w a l) (hnm : ∀ s ∈ l, s.name.length < 9223372036854775808) (hm : l.length ≤ 9223372036854775807) :
    Calls Try.prog 7 #[.slice a l.length c, .int .i64 n] w fun e w' => e = .returned (.bool true) ∧ Below w.heap.size w w' := by
  by_cases hbad : n < 1 ∨ 64 < n ∨ 40 < l.length
  · have HNO := Lib.hid (fun w => make_no a l.length c n hbad w)
    have HBAD := Lib.hid hbad
    clear hl hnm
    generalize hlm : l.length = m at *
    clear hlm
    clear hbad
    go_enter Try.func7, Try.ntmps7
    go_wp2_with fail
    refine (awake_any _).mono ?_; rintro e w1 ⟨rfl, hb⟩
    have HB := Lib.hid hb
    clear hb
    go_wp2_with fail
    refine (HNO.out _).mono ?_; rintro e w2 ⟨rfl, hb2⟩
    have HB2 := Lib.hid (bTrans HB.out hb2)
    clear hb2
    go_wp2_with fail
    all_goals first
      | (exfalso; have := HBAD.out; omega)
      | (have hh := HBAD.out
         have d : decide (40 < (m : Int)) = true := decide_eq_true (by omega)
         go_ret; exact ⟨ret_bool d, bAlloc HB2.out _⟩)
      | (go_ret; exact ⟨ret_bool rfl, bAlloc HB2.out _⟩)
      | go_ways
  · obtain ⟨n, rfl⟩ := Int.eq_ofNat_of_zero_le (show 0 ≤ n by omega)
    have h1 : 1 ≤ n := by omega
    have h2 : n ≤ 64 := by omega
    have h3 : l.length ≤ 40 := by omega
    have hall := totB_all l n (by omega)
    have htot : ∀ q, q ≤ n → totB l n q ≤ 40 := fun q hq => by
      have a1 := totB_mono l n hq
      rw [hall] at a1
      have a2 := List.countP_le_length (p := shownB) (l := l)
      omega
    have HMK := Lib.hid (fun W (hW : RdS W a l) => make_any a l c n h1 h2 h3 W hW hnm)
    have HALL := Lib.hid hall
    have HTOT := Lib.hid htot
    have HL := Lib.hid hl
    have HNM := Lib.hid hnm
    clear hl hnm hbad hall htot
    generalize hlm : l.length = m at *
    have HLM := Lib.hid hlm
    clear hlm
    go_enter Try.func7, Try.ntmps7
    go_wp2_with fail
    refine (awake_any _).mono ?_; rintro e w1 ⟨rfl, hb⟩
    have HB := Lib.hid hb
    clear hb
    go_wp2_with fail
    refine (HMK.out _ (HL.out.below HB.out)).mono ?_; rintro e w2 ⟨B, C, rfl, hB, hC, hBl, hCl, hb2⟩
    rw [HLM.out] at hC ⊢
    obtain ⟨bx, hbx⟩ : ∃ bx, w2.heap.size = bx := ⟨_, rfl⟩
    have hA : AlongS w (w2.alloc (.cells #[.slice (some ⟨B, 0, none⟩) n n, .slice (some ⟨C, 0, none⟩) m m] 33)) bx a l B C n m := by
      subst hbx
      exact ⟨bAlloc (bTrans HB.out hb2) _, (boxed (Below.refl _ _) 0).trans rfl, (boxed (Below.refl _ _) 1).trans rfl, hB.alloc _, hC.alloc _, HL.out.below (bAlloc (bTrans HB.out hb2) _)⟩
    have HA := Lib.hid hA
    clear hb2 hB hC hBl hCl hA
    go_wp2_with fail
    clear hbx
    go_loopw [8, 9] (fun sh i wr => ∃ k : Nat, k ≤ m ∧ i = .int .i64 k ∧ sh = .int .i64 (((l.take k).countP shownB : Nat) : Int) ∧ Hid (AlongS w wr bx a l B C n m)) (fun _ i _ => m - (intOf i).toNat)
    case atStart => exact ⟨0, Nat.zero_le _, rfl, rfl, HA⟩
    case round =>
      obtain ⟨k, hk, rfl, rfl, HW⟩ := hrel
      by_cases hlt : k < m
      · have hkl : k < l.length := by rw [HLM.out]; exact hlt
        have hct := count_take l k hkl
        have hcb : (l.take k).countP shownB ≤ 40 := Nat.le_trans (List.countP_le_length) (by rw [List.length_take]; omega)
        obtain ⟨S, o, rfl, hSl, hc⟩ := HW.out.2.2.2.2.2.at_ hkl
        obtain ⟨s, hs⟩ : ∃ s, l[k] = s := ⟨_, rfl⟩
        rw [hs] at hc hct
        obtain ⟨g0, g1, g2, g3, g4, g5, g6, g7⟩ := hc
        clear hs
        generalize (l.take k).countP shownB = cn at *
        have HCT := Lib.hid hct
        clear hct
        by_cases hsh : shownB s = true
        all_goals
          go_wp2_with fail
          refine (shown_sym s _).mono ?_; rintro e w3 ⟨rfl, hb3⟩
          first | rw [hsh] | rw [(Bool.not_eq_true _).mp hsh]
          have HW2 := Lib.hid (HW.out.below hb3)
          clear g0 g1 g2 g3 g4 g5 g6 g7 hb3
          go_wp2_with fail
          go_roundw
          case rel => exact ⟨k + 1, by omega, by go_num, by rw [HCT.out]; simp [hsh], HW2⟩
          case measure => simp [intOf]; omega
      · obtain rfl : k = m := by omega
        have htk : l.take k = l := List.take_of_length_le (by rw [HLM.out]; exact Nat.le_refl _)
        rw [htk]
        clear htk
        go_wp2_with fail
        obtain ⟨tl, htl⟩ : ∃ tl, l.countP shownB = tl := ⟨_, rfl⟩
        rw [htl]
        have HTL := Lib.hid htl
        clear htl
        go_loopw [11, 12] (fun mn b wr => ∃ q : Nat, q ≤ n ∧ b = .int .i64 q ∧ mn = .int .i64 ((totB l n q : Nat) : Int) ∧ Hid (AlongS w wr bx a l B C n k)) (fun _ b _ => n - (intOf b).toNat)
        case atStart => exact ⟨0, Nat.zero_le _, rfl, rfl, HW⟩
        case round =>
          obtain ⟨q, hq, rfl, rfl, HV⟩ := hrel
          by_cases hqn : q < n
          · obtain ⟨-, hx0, hx1, hxb, -, -⟩ := HV.out
            obtain ⟨B', o', e', hBl', hcb⟩ := hxb.at_ hqn
            obtain ⟨rfl, rfl⟩ : B' = B ∧ o' = 0 := by simp only [Option.some.injEq, Addr.mk.injEq] at e'; exact ⟨e'.1.symm, e'.2.1.symm⟩
            rw [bucketsZ_get l n q hqn, Nat.zero_add] at hcb
            have hcz : totB l n q + cntB l n q 0 = totB l n (q + 1) := rfl
            have HCZ := Lib.hid hcz
            have HTQ := Lib.hid (HTOT.out (q + 1) hqn)
            clear hxb e' hcz
            generalize totB l n q = t0 at *
            obtain ⟨t1, ht1⟩ : ∃ t1, totB l n (q + 1) = t1 := ⟨_, rfl⟩
            rw [ht1] at HCZ HTQ
            have HT1 := Lib.hid ht1
            clear ht1
            go_wp2_with fail
            clear hx0 hx1 hcb hBl'
            obtain ⟨wo, rfl⟩ : ∃ wo : World, wo = wr := ⟨_, rfl⟩
            go_loopw [11, 13] (fun mn i wr => ∃ p cc : Nat, p ≤ k ∧ i = .int .i64 ((nextN l n q p : Nat) : Int) ∧ mn = .int .i64 (cc : Int) ∧ Hid (cc + cntB l n q p = t1) ∧ Hid (AlongS w wr bx a l B' C n k)) (fun mn _ _ => t1 - (intOf mn).toNat)
            case atStart => exact ⟨0, t0, Nat.zero_le _, rfl, rfl, HCZ, HV⟩
            case round =>
              obtain ⟨p, cc, hp, rfl, rfl, HC, HU⟩ := hrel
              by_cases hz : nextN l n q p = 0
              · have hc0 := next_zero l n q p hz
                have hcc := HC.out
                rw [hc0] at hcc
                rw [hz]
                have HT2 := Lib.hid hcc
                clear hz hc0 hcc
                go_wp2_with fail
                go_roundw
                case rel => exact ⟨q + 1, by omega, by go_num, by (have e : cc = t1 := (by have := HT2.out; omega)); rw [HT1.out, e], HU⟩
                case measure => simp [intOf]; omega
              · obtain ⟨j, hj⟩ : ∃ j, nextN l n q p = j + 1 := ⟨nextN l n q p - 1, by omega⟩
                obtain ⟨hjl, hpj, hin, hcn⟩ := next_some l n q p j hj
                have hjk : j < k := by rw [← HLM.out]; exact hjl
                have hc1 := HC.out
                rw [hcn] at hc1
                have h40 := HTQ.out
                have hfar := next_far l n q (j + 1)
                have hchn : chainN l n j = nextN l n q (j + 1) := by
                  unfold inB at hin
                  simp only [Bool.and_eq_true, beq_iff_eq] at hin
                  rw [chainN_yes l n j hjl hin.1, hin.2]
                obtain ⟨S, o, rfl, hSl, hc⟩ := HU.out.2.2.2.2.2.at_ hjl
                obtain ⟨C', o', e', hCl', hcc⟩ := HU.out.2.2.2.2.1.at_ hjk
                obtain ⟨rfl, rfl⟩ : C' = C ∧ o' = 0 := by simp only [Option.some.injEq, Addr.mk.injEq] at e'; exact ⟨e'.1.symm, e'.2.1.symm⟩
                have hcg := chainZ_get l n j hjl
                rw [HLM.out] at hcg
                rw [hcg, Nat.zero_add, hchn] at hcc
                have hx1 := HU.out.2.2.1
                have hlen := HNM.out _ (List.getElem_mem hjl)
                obtain ⟨s, hs⟩ : ∃ s, l[j] = s := ⟨_, rfl⟩
                rw [hs] at hc hin hlen
                have hin2 := hin
                unfold inB at hin2
                simp only [Bool.and_eq_true, beq_iff_eq] at hin2
                have hmod := wrap_mod_ne (ofH s.name) n q (by omega) (by omega) hin2.2
                have hsh := hin2.1
                have hlt32 := ofH_lt s.name
                have HOF := Lib.hid (fun w => of_any s.name w hlen)
                obtain ⟨hv, hhv⟩ : ∃ hv : Nat, ofH s.name = hv := ⟨_, rfl⟩
                rw [hhv] at hmod HOF hlt32
                obtain ⟨nx, hnx⟩ : ∃ nx : Nat, nextN l n q (j + 1) = nx := ⟨_, rfl⟩
                rw [hnx] at hfar hcc
                have HCELL := Lib.hid hc
                obtain ⟨g0, g1, g2, g3, g4, g5, g6, g7⟩ := hc
                have HNX := Lib.hid hnx
                have HC1 := Lib.hid hc1
                rw [hj, show (((j + 1 : Nat) : Int)) = (j : Int) + 1 by omega]
                have hcc40 : cc ≤ 40 := by omega
                have hn4 : ¬ (n : Int) % 4294967296 = 0 := by omega
                have hm1 : ((n : Int) % 4294967296) = (n : Int) := by omega
                clear hcn hj hz hin hin2 hs hhv hnx hchn hcg e' hc1 hlen
                go_wp2_with fail
                refine (HOF.out _).mono ?_; rintro e w' ⟨rfl, rfl⟩
                go_wp2_with fail
                refine (shown_sym s _).mono ?_; rintro e w3 ⟨rfl, hb3⟩
                rw [hsh]
                have HU2 := Lib.hid (HU.out.below hb3)
                have hx1' := HU2.out.2.2.1
                have hcc' := (hb3.cell (p := ⟨C', j, none⟩) (heap_lt_of_cell hcc)).trans hcc
                clear g0 g1 g2 g3 g4 g5 g6 g7 hx1 hcc hb3
                go_wp2_with fail
                all_goals go_roundw
                all_goals first
                  | exact ⟨j + 1, cc + 1, by omega, by rw [HNX.out]; congr 1; omega, by go_num, Lib.hid (by have := HC1.out; omega), HU2⟩
                  | exact ⟨j + 1, cc + 1, by omega, by rw [HNX.out], by go_num, Lib.hid (by have := HC1.out; omega), HU2⟩
                  | (have := HC1.out; simp [intOf]; omega)
          · have hqe : q = n := by omega
            have ha : totB l n q = tl := by rw [hqe, HALL.out, HTL.out]
            rw [ha]
            clear ha
            have d : decide ((q : Int) < (n : Int)) = false := decide_eq_false (by omega)
            have hself : ((tl : Int) == (tl : Int)) = true := beq_self_eq_true _
            clear hqe
            go_wp2_with fail
            go_ret
            exact ⟨ret_bool (by simp), HV.out.1⟩
end Go.Proofs.Ytniefpdibmpngaa
