/- The sort of a row of uint64s: contract. -/
import Derived.Test.YtjefkhieihigiaaGreatSoK
import Derived.Sort.LotD3
namespace Go.Proofs.YtjefkhieihigiaaGreat
set_option linter.unusedVariables false
set_option linter.unusedSimpArgs false
open Go.Joins Go.ChangeShapes Go.WideShapes Go.ChangeAt Go.RowKit Go.Deep

/-- what a sort of [a, b) leaves -/
def Done (w0 : World) (g cap : Nat) (e : TypeId) (a b : Nat) (d : Array Int) (w' : World) : Prop := ∃ d', Sort.PermIn a b d d' ∧ Sort.SortedIn ltI a b d' ∧ Sw w0 g cap e d' w'
theorem rev_any2 (w0 : World) (g cap : Nat) (e : TypeId) (d : Array Int) (w : World) (S : Sw w0 g cap e d w) (a L : Nat) (hb : a + L ≤ d.size) (hsz : d.size < 100000) :
    Calls Tryz.prog 92 #[.slice (some ⟨g, 0, none⟩) d.size cap, .int .i64 a, .int .i64 ((a + L : Nat) : Int)] w fun e' w' => e' = .returned (.tuple #[]) ∧ ∃ d', Sort.PermIn a (a + L) d d' ∧ Sw w0 g cap e d' w' :=
  rev_any w0 g cap e d w S a (a + L) (by omega) hb hsz
set_option maxRecDepth 100000 in
set_option maxHeartbeats 1000000 in
theorem pdq_any (w0 : World) (g cap : Nat) (e : TypeId) (N : Nat) (hsz : N < 100000) : ∀ (n a L lim : Nat) (d : Array Int) (w : World), L < n → Sw w0 g cap e d w → d.size = N → a + L ≤ N → lim ≤ 1000 → Sort.Below ltI a (a + L) d →
    Calls Tryz.prog 80 #[.slice (some ⟨g, 0, none⟩) N cap, .int .i64 a, .int .i64 ((a + L : Nat) : Int), .int .i64 lim] w fun e' w' => e' = .returned (.tuple #[]) ∧ Done w0 g cap e a (a + L) d w' := by
  intro n
  induction n with
  | zero => intro a L lim d w h; omega
  | succ n ih =>
    intro a L lim d w hLn S hdN haL hlim hBel
    have IH := Lib.hid ih
    have S0 := Lib.hid S
    have HB0 := Lib.hid hBel
    have HN := Lib.hid hdN
    clear ih S hBel hdN
    go_enter Tryz.func80, Tryz.ntmps80
    go_wp2
    go_loopg [1, 2, 3, 8, 9] L (fun k s1 s2 s3 s8 s9 wr => ∃ (a' L' lim' : Nat) (wb wp : Bool) (dk : Array Int), s1 = .int .i64 a' ∧ s2 = .int .i64 ((a' + L' : Nat) : Int) ∧ s3 = .int .i64 lim' ∧ s8 = .bool wb ∧ s9 = .bool wp ∧ a' + L' ≤ N ∧ L' ≤ k ∧ k ≤ L ∧ lim' ≤ 1000 ∧ dk.size = N ∧ Hid (Sw w0 g cap e dk wr) ∧ Hid (Sort.Below ltI a' (a' + L') dk) ∧ Hid (∀ R, Sort.PermIn a' (a' + L') dk R → Sort.SortedIn ltI a' (a' + L') R → Sort.PermIn a (a + L) d R ∧ Sort.SortedIn ltI a (a + L) R))
    case atStart => exact ⟨a, L, lim, true, true, d, rfl, rfl, rfl, rfl, rfl, haL, Nat.le_refl _, Nat.le_refl _, hlim, HN.out, S0, HB0, Lib.hid (fun R h1 h2 => ⟨h1, h2⟩)⟩
    case round =>
      clear S0 HB0
      obtain ⟨a', L', lim', wb, wp, dk, rfl, rfl, rfl, rfl, rfl, haL', hk, hkL, hlim', hds, S1, HB1, HG⟩ := hrel
      have hl1 : ((a' + L' : Nat) : Int) - (a' : Int) = (L' : Int) := by omega
      have hl2 : (a' : Int) + (L' : Int) - (a' : Int) = (L' : Int) := by omega
      by_cases h12 : L' ≤ 12
      · have h12z : (L' : Int) ≤ 12 := by omega
        have HC := Lib.hid (ins_any w0 g cap e dk wr S1.out a' (a' + L') (by omega) (by omega) (by omega))
        rw [hds] at HC
        have HH : Hid (Sort.PermIn a (a + L) d (Sort.insertionSort ltI dk a' (a' + L')) ∧ Sort.SortedIn ltI a (a + L) (Sort.insertionSort ltI dk a' (a' + L'))) := Lib.hid (by
          have := Sort.insertionSort_holds (lt := ltI) swo dk a' (a' + L') (by omega) (by omega)
          exact HG.out _ this.1 this.2)
        clear S1 HB1 HG
        go_wp2_with fail
        refine HC.out.mono ?_; rintro e1 w1 ⟨rfl, S2⟩
        go_wp2_with fail
        (try simp only [Exit.inBlock, Exit.then]); refine bodyPost_ret (results_none rfl _ _ _) rfl ?_
        exact ⟨rfl, _, HH.out.1, HH.out.2, S2⟩
      · have h12z : ¬ (L' : Int) ≤ 12 := by omega
        by_cases hl0 : lim' = 0
        · subst hl0
          have HC := Lib.hid (heap_any w0 g cap e dk wr S1.out a' L' (by omega) (by omega))
          rw [hds] at HC
          have HH : Hid (Sort.PermIn a (a + L) d (Sort.heapSort ltI dk a' (a' + L')) ∧ Sort.SortedIn ltI a (a + L) (Sort.heapSort ltI dk a' (a' + L'))) := Lib.hid (by
            have := Sort.heapSort_holds (lt := ltI) swo dk a' (a' + L') (by omega) (by omega)
            exact HG.out _ this.1 this.2)
          clear S1 HB1 HG
          go_wp2_with fail
          refine HC.out.mono ?_; rintro e1 w1 ⟨rfl, S2⟩
          go_wp2_with fail
          (try simp only [Exit.inBlock, Exit.then]); refine bodyPost_ret (results_none rfl _ _ _) rfl ?_
          exact ⟨rfl, _, HH.out.1, HH.out.2, S2⟩
        · have hl0z : ¬ (lim' : Int) = 0 := by omega
          -- the patterns
          go_upto_if 35 with fail
          go_cut [3] from 19 (fun s3 wc => ∃ (l2 : Nat) (d1 : Array Int), s3 = .int .i64 l2 ∧ l2 ≤ 1000 ∧ Hid (Sort.PermIn a' (a' + L') dk d1) ∧ Hid (Sw w0 g cap e d1 wc))
          case first =>
            cases wb
            · have HC := Lib.hid (break_any w0 g cap e dk wr S1.out a' L' (by omega) (by omega) (by omega))
              rw [hds] at HC
              clear S1 HB1 HG
              go_wp2_with fail
              refine HC.out.mono ?_; rintro e1 w1 ⟨rfl, d1, hp1, S2⟩
              have HP1 := Lib.hid hp1
              have HS2 := Lib.hid S2
              clear hp1 S2
              go_wp2_with fail
              go_meet
              case rel => exact ⟨lim' - 1, d1, by congr 1; omega, by omega, HP1, HS2⟩
            · go_wp2_with fail
              go_meet
              case rel => exact ⟨lim', dk, rfl, hlim', Lib.hid (Sort.permIn_refl _ _ _), S1⟩
          case rest =>
            clear S1
            obtain ⟨l2, d1, rfl, hl2', HP1, S1⟩ := hcut
            have hs1 : d1.size = N := HP1.out.1.trans hds
            have HC := Lib.hid (pivot_any w0 g cap e d1 wc S1.out a' L' (by omega) (by omega) (by omega))
            rw [hs1] at HC
            clear S1
            go_upto_if 50 with (go_at_call 91; refine HC.out.mono ?_; rintro e2 w2 ⟨p, h, rfl, hp1, hp2, hh, S2⟩)
            have HS2 := Lib.hid S2
            clear S2 HC
            go_cut [11, 12] from 19 (fun s11 s12 wc => ∃ (p2 h2 : Nat) (d2 : Array Int), s11 = .int .i64 p2 ∧ s12 = .int .i64 h2 ∧ a' ≤ p2 ∧ p2 < a' + L' ∧ Hid (Sort.PermIn a' (a' + L') dk d2) ∧ Hid (Sw w0 g cap e d2 wc))
            case first =>
              by_cases hh2 : h = 2
              · subst hh2
                have HC := Lib.hid (rev_any2 w0 g cap e d1 w2 HS2.out a' L' (by omega) (by omega))
                rw [hs1] at HC
                clear HS2
                go_wp2_with fail
                refine HC.out.mono ?_; rintro e1 w1 ⟨rfl, d2, hp3, S3⟩
                have HP2 := Lib.hid (Sort.permIn_trans _ _ _ _ _ HP1.out hp3)
                have HS3 := Lib.hid S3
                clear hp3 S3
                go_wp2_with fail
                go_meet
                case rel => exact ⟨a' + L' - 1 - (p - a'), 1, d2, by congr 1; omega, rfl, by omega, by omega, HP2, HS3⟩
              · have hhz : ¬ (h : Int) = 2 := by omega
                go_wp2_with fail
                go_meet
                case rel => exact ⟨p, h, d1, rfl, rfl, hp1, hp2, HP1, HS2⟩
            case rest =>
              clear HS2 HP1
              obtain ⟨p2, h2, d2, rfl, rfl, hp3, hp4, HP2, S2⟩ := hcut
              have hs2 : d2.size = N := HP2.out.1.trans hds
              have HB2 : Hid (Sort.Below ltI a' (a' + L') d2) := Lib.hid (Sort.Below.permA Sort.permIn_all (by omega) HB1.out HP2.out)
              go_upto_region 15 with fail
              go_cut [68] from 19 (fun s68 wx => ∃ c : Bool, s68 = .bool c ∧ wx = wc)
              case first =>
                clear S2
                by_cases hh1 : h2 = 1
                · subst hh1
                  cases wb <;> cases wp <;> (go_wp2_with fail; go_meet; exact ⟨_, rfl, rfl⟩)
                · have hh1z : ¬ (h2 : Int) = 1 := by omega
                  cases wb <;> cases wp <;> (go_wp2_with fail; go_meet; exact ⟨_, rfl, rfl⟩)
              case rest =>
                obtain ⟨c, rfl, hwx⟩ := hcut
                subst hwx
                go_upto_if 68 with fail
                go_cut [] from 19 (fun wx => ∃ (d3 : Array Int), Hid (Sort.PermIn a' (a' + L') dk d3) ∧ Hid (Sw w0 g cap e d3 wx))
                case first =>
                  cases c
                  · go_wp2_with fail
                    go_meet
                    case rel => exact ⟨d2, HP2, S2⟩
                  · have HC := Lib.hid (partial_any w0 g cap e d2 wc S2.out a' (a' + L') (by omega) (by omega) (by omega) HB2.out)
                    rw [hs2] at HC
                    clear S2
                    go_wp2_with fail
                    refine HC.out.mono ?_; rintro e1 w1 ⟨r, d3, rfl, hp5, hr5, S3⟩
                    have HP5 := Lib.hid (Sort.permIn_trans _ _ _ _ _ HP2.out hp5)
                    have HR5 := Lib.hid hr5
                    have HS3 := Lib.hid S3
                    clear hp5 hr5 S3
                    cases r
                    · go_wp2_with fail
                      go_meet
                      case rel => exact ⟨d3, HP5, HS3⟩
                    · have HH : Hid (Sort.PermIn a (a + L) d d3 ∧ Sort.SortedIn ltI a (a + L) d3) := Lib.hid (HG.out _ HP5.out (HR5.out rfl))
                      go_wp2_with fail
                      (try simp only [Exit.inBlock, Exit.then]); refine bodyPost_ret (results_none rfl _ _ _) rfl ?_
                      exact ⟨rfl, _, HH.out.1, HH.out.2, HS3.out⟩
                case rest =>
                  clear S2 HP2 HB2 hs2
                  obtain ⟨d3, HP3, S3⟩ := hcut
                  have hs3 : d3.size = N := HP3.out.1.trans hds
                  have HB3 : Hid (Sort.Below ltI a' (a' + L') d3) := Lib.hid (Sort.Below.permA Sort.permIn_all (by omega) HB1.out HP3.out)
                  have hpN : p2 < N := by omega
                  have eP : wc.cell? ⟨g, p2, none⟩ = some (.int .u64 d3[p2]!) := S3.out.c _ (by omega)
                  have hfw : ∀ t, wc.frozen? ⟨g, t, none⟩ = false := S3.out.f
                  go_upto_region 17 with fail
                  go_cut [87] from 19 (fun s87 wx => s87 = .bool (decide (0 < a') && !ltI d3[a' - 1]! d3[p2]!) ∧ Hid (Sw w0 g cap e d3 wx))
                  case first =>
                    rcases Nat.eq_zero_or_pos a' with ha0 | ha0
                    · have ha0z : decide ((a' : Int) > 0) = false := decide_eq_false (by omega)
                      go_big_quiet (first | (go_at_call 94; refine Calls.quiet_of_same (less_any _ _ _)))
                      go_wp2_with fail
                      go_meet
                      case rel => exact ⟨by simp [ha0], Lib.hid (S3.out.drewN nq)⟩
                    · have ha0z : (a' : Int) > 0 := by omega
                      obtain ⟨a1, ha1⟩ : ∃ a1, a' - 1 = a1 := ⟨_, rfl⟩
                      have ha1z : (a' : Int) - 1 = (a1 : Int) := by omega
                      have ha1N : a1 < N := by omega
                      have eA : wc.cell? ⟨g, a1, none⟩ = some (.int .u64 d3[a1]!) := S3.out.c _ (by omega)
                      obtain ⟨x, hx⟩ : ∃ x, d3[a1]! = x := ⟨_, rfl⟩
                      obtain ⟨y, hy⟩ : ∃ y, d3[p2]! = y := ⟨_, rfl⟩
                      rw [hx] at eA
                      rw [hy] at eP
                      have HX := Lib.hid hx
                      have HY := Lib.hid hy
                      clear hx hy
                      go_big_quiet (first | (go_at_call 94; refine Calls.quiet_of_same (less_any _ _ _)))
                      go_wp2_with fail
                      go_meet
                      case rel => exact ⟨by rw [decide_eq_true ha0, Bool.true_and, ha1, HX.out, HY.out], Lib.hid (S3.out.drewN nq)⟩
                  case rest =>
                    clear S3 eP hfw
                    obtain ⟨rfl, S3⟩ := hcut
                    have HB5 : a' + L' ≤ d3.size := by omega
                    cases h87 : (decide (0 < a') && !ltI d3[a' - 1]! d3[p2]!)
                    · obtain ⟨mid, ap, d4, hx⟩ : ∃ mid ap d4, Sort.partition ltI d3 a' (a' + L') p2 = (mid, ap, d4) := ⟨(Sort.partition ltI d3 a' (a' + L') p2).1, (Sort.partition ltI d3 a' (a' + L') p2).2.1, (Sort.partition ltI d3 a' (a' + L') p2).2.2, rfl⟩
                      obtain ⟨r1, r2, r3, r4, r5, r6, r7⟩ := Sort.round_part swo (Sort.partition_holds ltI) hp3 hp4 HB5 HB3.out hx
                      have HC := Lib.hid (part_any w0 g cap e d3 wc S3.out a' (a' + L') p2 hp3 hp4 HB5 (by omega))
                      rw [hs3, hx] at HC
                      have R4 := Lib.hid r4
                      have R5 := Lib.hid r5
                      have R6 := Lib.hid r6
                      have R7 := Lib.hid r7
                      have hs4 : d4.size = N := r3.trans hs3
                      clear r4 r5 r6 r7 hx S3 r3
                      obtain ⟨m, rfl⟩ : ∃ m, mid = a' + m := ⟨mid - a', by omega⟩
                      obtain ⟨q, hq⟩ : ∃ q, L' = m + 1 + q := ⟨L' - (m + 1), by omega⟩
                      have hm1 : (a' : Int) + (m : Int) - (a' : Int) = (m : Int) := by omega
                      have hm1' : ((a' + m : Nat) : Int) - (a' : Int) = (m : Int) := by omega
                      have hm2 : (a' : Int) + (L' : Int) - ((a' : Int) + (m : Int)) = (q : Int) + 1 := by omega
                      have hm2' : ((a' + L' : Nat) : Int) - ((a' + m : Nat) : Int) = (q : Int) + 1 := by omega
                      have hm2'' : (a' : Int) + (L' : Int) - ((a' + m : Nat) : Int) = (q : Int) + 1 := by omega
                      have hb1 : a' + m + 1 + q = a' + L' := by omega
                      clear hq
                      go_upto_if 113 with (go_at_call 96; refine HC.out.mono ?_; rintro e3 w3 ⟨rfl, S4⟩)
                      have HS4 := Lib.hid S4
                      clear S4 HC
                      by_cases hmq : m < q + 1
                      · have hmqz : (m : Int) < (q : Int) + 1 := by omega
                        have HI := Lib.hid (IH.out a' m l2 d4 w3 (by omega) HS4.out hs4 (by omega) hl2' R4.out)
                        go_wp2_with fail
                        refine HI.out.mono ?_; rintro e4 w4 ⟨rfl, dL, hpL, hsL, S5⟩
                        have HS5 := Lib.hid S5
                        have hs5 : dL.size = N := hpL.1.trans hs4
                        have HR := Lib.hid (R6.out dL hpL hsL)
                        clear hpL hsL S5 HI HS4
                        go_wp2_with fail
                        go_roundg q
                        case measure => omega
                        case rel => exact ⟨a' + m + 1, q, l2, _, ap, dL, by first | rfl | go_num | (congr 1; omega), by first | rfl | (congr 1; omega), rfl, rfl, rfl, by omega, Nat.le_refl _, by omega, hl2', hs5, HS5, Lib.hid (by rw [hb1]; exact HR.out.1), Lib.hid (fun R h1 h2 => by
                          rw [hb1] at h1 h2
                          have h3 := HR.out.2 R h1 h2
                          exact HG.out R (Sort.permIn_trans _ _ _ _ _ HP3.out h3.1) h3.2)⟩
                      · have hmqz : ¬ (m : Int) < (q : Int) + 1 := by omega
                        have HI := Lib.hid (IH.out (a' + m + 1) q l2 d4 w3 (by omega) HS4.out hs4 (by omega) hl2' (by rw [hb1]; exact R5.out))
                        rw [hb1] at HI
                        go_wp2_with fail
                        refine HI.out.mono ?_; rintro e4 w4 ⟨rfl, dL, hpL, hsL, S5⟩
                        have HS5 := Lib.hid S5
                        have hs5 : dL.size = N := hpL.1.trans hs4
                        have HR := Lib.hid (R7.out dL hpL hsL)
                        clear hpL hsL S5 HI HS4
                        go_wp2_with fail
                        go_roundg m
                        case measure => omega
                        case rel => exact ⟨a', m, l2, _, ap, dL, rfl, by first | rfl | (congr 1; omega), rfl, rfl, rfl, by omega, Nat.le_refl _, by omega, hl2', hs5, HS5, Lib.hid HR.out.1, Lib.hid (fun R h1 h2 => by
                          have h3 := HR.out.2 R h1 h2
                          exact HG.out R (Sort.permIn_trans _ _ _ _ _ HP3.out h3.1) h3.2)⟩
                    · have h87' := h87
                      simp only [Bool.and_eq_true, decide_eq_true_eq, Bool.not_eq_true'] at h87'
                      obtain ⟨mid, d4, hx⟩ : ∃ mid d4, Sort.partitionEqual ltI d3 a' (a' + L') p2 = (mid, d4) := ⟨(Sort.partitionEqual ltI d3 a' (a' + L') p2).1, (Sort.partitionEqual ltI d3 a' (a' + L') p2).2, rfl⟩
                      obtain ⟨r1, r2, r3, r4, r5⟩ := Sort.round_eq swo (Sort.partitionEqual_holds ltI) h87'.1 hp3 hp4 HB5 HB3.out h87'.2 hx
                      have HC := Lib.hid (peq_any w0 g cap e d3 wc S3.out a' (a' + L') p2 hp3 hp4 HB5 (by omega))
                      rw [hs3, hx] at HC
                      have R4 := Lib.hid r4
                      have R5 := Lib.hid r5
                      have hs4 : d4.size = N := r3.trans hs3
                      clear r4 r5 hx S3 r3 h87'
                      obtain ⟨q, hq⟩ : ∃ q, mid + q = a' + L' := ⟨a' + L' - mid, by omega⟩
                      go_wp2_with fail
                      refine HC.out.mono ?_; rintro e3 w3 ⟨rfl, S4⟩
                      have HS4 := Lib.hid S4
                      clear S4 HC
                      go_wp2_with fail
                      go_roundg q
                      case measure => omega
                      case rel => exact ⟨mid, q, l2, wb, wp, d4, rfl, by first | rfl | (congr 1; omega), rfl, rfl, rfl, by omega, Nat.le_refl _, by omega, hl2', hs4, HS4, Lib.hid (by rw [hq]; exact R4.out), Lib.hid (fun R h1 h2 => by
                        rw [hq] at h1 h2
                        have h3 := R5.out R h1 h2
                        exact HG.out R (Sort.permIn_trans _ _ _ _ _ HP3.out h3.1) h3.2)⟩
end Go.Proofs.YtjefkhieihigiaaGreat
