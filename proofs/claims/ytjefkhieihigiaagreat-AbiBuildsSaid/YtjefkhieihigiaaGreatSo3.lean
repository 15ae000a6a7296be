/- Merged: SoI SoJ. -/
import Derived.Test.YtjefkhieihigiaaGreatSo2
import Derived.Sort.LotA
import Derived.Deep.Cut
import Derived.Sort.LotC
namespace Go.Proofs.YtjefkhieihigiaaGreat
set_option linter.unusedVariables false
set_option linter.unusedSimpArgs false
open Go.Joins Go.ChangeShapes Go.WideShapes Go.ChangeAt Go.RowKit Go.Deep

theorem swo : Sort.SWO ltI := Sort.swo_ltInt
/-- two neighbours of a rising part changed places: the lesser one goes down -/
theorem ins_begin {d : Array Int} {a i : Nat} (h : Sort.SortedIn ltI a i d) (hl : ltI d[i]! d[i - 1]! = true) (hai : a < i) (hs : i < d.size) : Sort.Ins ltI a (i - 1) i (Sort.swp d i (i - 1)) := by
  have hb : Sort.Ins ltI a i i d := ⟨fun p q hap hpq hqi hp hq => h p q hap hpq (by omega), fun q h1 h2 => by omega⟩
  obtain ⟨j, rfl⟩ : ∃ j, i = j + 1 := ⟨i - 1, by omega⟩
  rw [Nat.add_sub_cancel] at *
  exact hb.step hl (by omega) hs
theorem sorted_one (a : Nat) (d : Array Int) (i : Nat) (h : i ≤ a + 1) : Sort.SortedIn ltI a i d := fun p q h1 h2 h3 => by omega
def PIp (w0 : World) (g cap : Nat) (e : TypeId) (a b : Nat) (d : Array Int) (e' : Ending) (w' : World) : Prop := ∃ r d', e' = .returned (.bool r) ∧ Sort.PermIn a b d d' ∧ (r = true → Sort.SortedIn ltI a b d') ∧ Sw w0 g cap e d' w'
set_option maxRecDepth 100000 in
set_option maxHeartbeats 4000000 in
theorem partial_any (w0 : World) (g cap : Nat) (e : TypeId) (d : Array Int) (w : World) (S : Sw w0 g cap e d w) (a b : Nat) (hab : a < b) (hb : b ≤ d.size) (hsz : d.size < 100000) (hB : Sort.Below ltI a b d) :
    Calls Tryz.prog 93 #[.slice (some ⟨g, 0, none⟩) d.size cap, .int .i64 a, .int .i64 b] w fun e' w' => PIp w0 g cap e a b d e' w' := by
  have S0 := Lib.hid S
  obtain ⟨N, hN⟩ : ∃ N, d.size = N := ⟨_, rfl⟩
  have HBL := Lib.hid (fun (dk : Array Int) (hp : Sort.PermIn a b d dk) => Sort.Below.permA Sort.permIn_all hb hB hp)
  rw [hN] at hb hsz
  rw [hN]
  have HN := Lib.hid hN
  clear S hN hB
  go_enter Tryz.func93, Tryz.ntmps93
  go_wp2
  go_loopg [7, 8] 5 (fun k vi vs wr => ∃ (i s : Nat) (dk : Array Int), vi = .int .i64 i ∧ vs = .int .i64 s ∧ s ≤ 5 ∧ 5 - s ≤ k ∧ a < i ∧ i ≤ b ∧ dk.size = N ∧ Hid (Sw w0 g cap e dk wr) ∧ Hid (Sort.PermIn a b d dk) ∧ Hid (Sort.SortedIn ltI a i dk))
  case atStart => exact ⟨a + 1, 0, d, by go_num, rfl, by omega, by omega, by omega, by omega, HN.out, S0, Lib.hid (Sort.permIn_refl _ _ _), Lib.hid (sorted_one a d (a + 1) (Nat.le_refl _))⟩
  case round =>
    clear S0
    obtain ⟨i, s, dk, rfl, rfl, hs5, hk, hai, hib, hds, S1, HP, HS⟩ := hrel
    by_cases hs : s < 5
    · have hsz5 : (s : Int) < 5 := by omega
      go_wp2_with fail
      go_loopg [7] (b - i) (fun k2 vj wr2 => ∃ (j : Nat), vj = .int .i64 j ∧ a < j ∧ j ≤ b ∧ b - j ≤ k2 ∧ Hid (Sw w0 g cap e dk wr2) ∧ Hid (Sort.SortedIn ltI a j dk))
      case atStart => exact ⟨i, rfl, hai, hib, Nat.le_refl _, S1, HS⟩
      case round =>
        clear S1 HS hai hib
        obtain ⟨j, rfl, haj, hjb, hk2, SJ, HSJ⟩ := hrel
        have hfw : ∀ t, wr.frozen? ⟨g, t, none⟩ = false := SJ.out.f
        by_cases hlt : j < b
        · obtain ⟨p, rfl⟩ : ∃ p, j = p + 1 := ⟨j - 1, by omega⟩
          have hltz : (p : Int) + 1 < (b : Int) := by omega
          have hp : p < N := by omega
          have hp1 : p + 1 < N := by omega
          have e0 : wr.cell? ⟨g, p + 1, none⟩ = some (.int .u64 dk[p + 1]!) := SJ.out.c _ (by omega)
          have e1 : wr.cell? ⟨g, p, none⟩ = some (.int .u64 dk[p]!) := SJ.out.c _ (by omega)
          obtain ⟨x, hx⟩ : ∃ x, dk[p + 1]! = x := ⟨_, rfl⟩
          obtain ⟨y, hy⟩ : ∃ y, dk[p]! = y := ⟨_, rfl⟩
          rw [hx] at e0
          rw [hy] at e1
          have HX := Lib.hid hx
          have HY := Lib.hid hy
          clear hx hy
          cases hl : ltI x y
          · go_wp2_with fail
            go_big_quiet (first | (go_at_call 94; refine Calls.quiet_of_same (less_any _ _ _)))
            go_wp2_with fail
            go_roundg (b - (p + 1 + 1))
            case measure => omega
            case rel => exact ⟨p + 1 + 1, by go_num, by omega, by omega, Nat.le_refl _, Lib.hid (SJ.out.drewN nq), Lib.hid (HSJ.out.snoc swo (by rw [Nat.add_sub_cancel, HX.out, HY.out]; exact hl))⟩
          · go_wp2_with fail
            go_big_quiet (first | (go_at_call 94; refine Calls.quiet_of_same (less_any _ _ _)))
            have S2 := Lib.hid (SJ.out.drewN nq)
            have f0 : (wr.drewN nq).cell? ⟨g, p + 1, none⟩ = some (.int .u64 x) := e0
            have f1 : (wr.drewN nq).cell? ⟨g, p, none⟩ = some (.int .u64 y) := e1
            have hfw' : ∀ t, (wr.drewN nq).frozen? ⟨g, t, none⟩ = false := hfw
            clear e0 e1 hfw SJ
            generalize wr.drewN nq = W2 at S2 f0 f1 hfw' ⊢
            clear nq
            have hne : decide ((p : Int) + 1 = (b : Int)) = false := decide_eq_false (by omega)
            have hne' : ¬ (p : Int) + 1 = (b : Int) := by omega
            by_cases h50 : b - a < 50
            · have h50z : (b : Int) - (a : Int) < 50 := by omega
              go_wp2_with fail
              go_ret
              exact ⟨false, dk, rfl, HP.out, fun h => absurd h (by simp), S2.out⟩
            · have h50z : ¬ (b : Int) - (a : Int) < 50 := by omega
              have HI : Hid (Sort.Ins ltI a p (p + 1) (Sort.swp dk (p + 1) p)) := Lib.hid (by
                have := ins_begin HSJ.out (by rw [Nat.add_sub_cancel, HX.out, HY.out]; exact hl) haj (by omega)
                rwa [Nat.add_sub_cancel] at this)
              have HQ : Hid (Sort.PermIn a b d (Sort.swp dk (p + 1) p)) := Lib.hid (swp_perm (by omega) (by omega) (by omega) (by omega) (by omega) HP.out)
              have hq : (Sort.swp dk (p + 1) p).size = N := by rw [swp_sz]; exact hds
              go_wp2_with fail
              go_region
              have S3 := Lib.hid (S2.out.swap (p + 1) p y x HY.out.symm HX.out.symm)
              clear S2 f0 f1 hfw'
              obtain ⟨W3, hW3⟩ : ∃ W3, ((W2.setCell ⟨g, p + 1, none⟩ (.int .u64 y)).setCell ⟨g, p, none⟩ (.int .u64 x)).drew = W3 := ⟨_, rfl⟩
              rw [hW3] at S3 ⊢
              clear hW3
              generalize Sort.swp dk (p + 1) p = d1 at HI HQ hq S3 ⊢
              clear HX HY HP HSJ hl hds
              go_upto_if 61 with fail
              go_cut [9] from 13 (fun s9 wc => ∃ d2 : Array Int, d2.size = N ∧ Hid (Sw w0 g cap e d2 wc) ∧ Hid (Sort.PermIn a b d d2) ∧ Hid (Sort.SortedIn ltI a (p + 1 + 1) d2))
              case first =>
                by_cases h2 : a < p
                · have h2z : 2 ≤ (p : Int) + 1 - (a : Int) := by omega
                  have pp : (p : Int) + 1 - 1 = (p : Int) := by omega
                  go_wp2_with fail
                  go_loopg [9] p (fun k vj wr => ∃ (j : Nat) (d2 : Array Int), vj = .int .i64 j ∧ a ≤ j ∧ j ≤ p ∧ j ≤ k ∧ d2.size = N ∧ Hid (Sw w0 g cap e d2 wr) ∧ Hid (Sort.PermIn a b d d2) ∧ Hid (Sort.Ins ltI a j (p + 1) d2))
                  case atStart => exact ⟨p, d1, rfl, by omega, Nat.le_refl _, Nat.le_refl _, hq, S3, HQ, HI⟩
                  case round =>
                    clear S3 HQ HI hq
                    obtain ⟨j, d2, rfl, haj, hjp, hk3, hd2, S4, HQ, HI⟩ := hrel
                    by_cases hj1 : 1 ≤ j
                    · obtain ⟨q, rfl⟩ : ∃ q, j = q + 1 := ⟨j - 1, by omega⟩
                      have hj1z : 1 ≤ (q : Int) + 1 := by omega
                      have qq : (q : Int) + 1 - 1 = (q : Int) := by omega
                      have hqN : q < N := by omega
                      have hqN1 : q + 1 < N := by omega
                      have e0 : wr.cell? ⟨g, q + 1, none⟩ = some (.int .u64 d2[q + 1]!) := S4.out.c _ (by omega)
                      have e1 : wr.cell? ⟨g, q, none⟩ = some (.int .u64 d2[q]!) := S4.out.c _ (by omega)
                      have hfw : ∀ t, wr.frozen? ⟨g, t, none⟩ = false := S4.out.f
                      have HBQ := Lib.hid (HBL.out d2 HQ.out)
                      obtain ⟨x, hx⟩ : ∃ x, d2[q + 1]! = x := ⟨_, rfl⟩
                      obtain ⟨y, hy⟩ : ∃ y, d2[q]! = y := ⟨_, rfl⟩
                      rw [hx] at e0
                      rw [hy] at e1
                      have HX := Lib.hid hx
                      have HY := Lib.hid hy
                      clear hx hy
                      cases hl : ltI x y
                      · go_wp2_with fail
                        go_big_quiet (first | (go_at_call 94; refine Calls.quiet_of_same (less_any _ _ _)))
                        go_wp2_with fail
                        go_meet
                        case rel => exact ⟨d2, hd2, Lib.hid (S4.out.drewN nq), HQ, Lib.hid (HI.out.stop swo (Or.inr (by rw [Nat.add_sub_cancel, HX.out, HY.out]; exact hl)))⟩
                      · have haq : a ≤ q := by
                          rcases HBQ.out with h | h
                          · omega
                          · apply Classical.byContradiction
                            intro hc
                            have hqa : a = q + 1 := by omega
                            have := h a (Nat.le_refl _) (by omega)
                            rw [hqa, Nat.add_sub_cancel, HX.out, HY.out, hl] at this
                            cases this
                        go_wp2_with fail
                        go_big_quiet (first | (go_at_call 94; refine Calls.quiet_of_same (less_any _ _ _)))
                        have S5 := Lib.hid (S4.out.drewN nq)
                        have f0 : (wr.drewN nq).cell? ⟨g, q + 1, none⟩ = some (.int .u64 x) := e0
                        have f1 : (wr.drewN nq).cell? ⟨g, q, none⟩ = some (.int .u64 y) := e1
                        have hfw' : ∀ t, (wr.drewN nq).frozen? ⟨g, t, none⟩ = false := hfw
                        clear e0 e1 hfw S4
                        generalize wr.drewN nq = W4 at S5 f0 f1 hfw' ⊢
                        clear nq
                        go_wp2_with fail
                        go_region
                        go_wp2_with fail
                        go_roundg q
                        case measure => omega
                        case rel => exact ⟨q, Sort.swp d2 (q + 1) q, by go_num, haq, by omega, Nat.le_refl _, by rw [swp_sz]; exact hd2, Lib.hid (S5.out.swap (q + 1) q y x HY.out.symm HX.out.symm), Lib.hid (swp_perm (by omega) (by omega) (by omega) (by omega) (by omega) HQ.out), Lib.hid (HI.out.step (by rw [HX.out, HY.out]; exact hl) haq (by omega))⟩
                    · obtain rfl : j = 0 := by omega
                      have hj1z : ¬ 1 ≤ ((0 : Nat) : Int) := by omega
                      go_wp2_with fail
                      go_meet
                      case rel => exact ⟨d2, hd2, S4, HQ, Lib.hid (HI.out.stop swo (Or.inl (Nat.zero_le _)))⟩
                · have h2z : ¬ 2 ≤ (p : Int) + 1 - (a : Int) := by omega
                  go_wp2_with fail
                  go_meet
                  case rel => exact ⟨d1, hq, S3, HQ, Lib.hid (HI.out.stop swo (Or.inl (by omega)))⟩
              case rest =>
                clear S3 HQ HI hq
                obtain ⟨d2, hd2, S4, HQ, HS2⟩ := hcut
                have HS1 : Hid (Sort.SortedIn ltI a (p + 1) d2) := Lib.hid (fun x y h1 h2 h3 => HS2.out x y h1 h2 (by omega))
                clear HS2
                by_cases h3 : p + 1 + 2 ≤ b
                · have h3z : 2 ≤ (b : Int) - ((p : Int) + 1) := by omega
                  go_wp2_with fail
                  go_loopg [10] b (fun k vj wr => ∃ (j : Nat) (d3 : Array Int), vj = .int .i64 ((j : Int) + 1) ∧ p + 1 ≤ j ∧ j < b ∧ b - j ≤ k ∧ d3.size = N ∧ Hid (Sw w0 g cap e d3 wr) ∧ Hid (Sort.PermIn a b d d3) ∧ Hid (Sort.SortedIn ltI a (p + 1) d3))
                  case atStart => exact ⟨p + 1, d2, by first | rfl | go_num, Nat.le_refl _, by omega, by omega, hd2, S4, HQ, HS1⟩
                  case round =>
                    clear S4 HQ HS1 hd2
                    obtain ⟨j, d3, rfl, hpj, hjb2, hk4, hd3, S5, HQ, HS1⟩ := hrel
                    by_cases hjb3 : j + 1 < b
                    · have hjz : (j : Int) + 1 < (b : Int) := by omega
                      have jj : (j : Int) + 1 - 1 = (j : Int) := by omega
                      have hjN : j < N := by omega
                      have hjN1 : j + 1 < N := by omega
                      have e0 : wr.cell? ⟨g, j + 1, none⟩ = some (.int .u64 d3[j + 1]!) := S5.out.c _ (by omega)
                      have e1 : wr.cell? ⟨g, j, none⟩ = some (.int .u64 d3[j]!) := S5.out.c _ (by omega)
                      have hfw : ∀ t, wr.frozen? ⟨g, t, none⟩ = false := S5.out.f
                      obtain ⟨x, hx⟩ : ∃ x, d3[j + 1]! = x := ⟨_, rfl⟩
                      obtain ⟨y, hy⟩ : ∃ y, d3[j]! = y := ⟨_, rfl⟩
                      rw [hx] at e0
                      rw [hy] at e1
                      have HX := Lib.hid hx
                      have HY := Lib.hid hy
                      clear hx hy
                      cases hl : ltI x y
                      · go_wp2_with fail
                        go_big_quiet (first | (go_at_call 94; refine Calls.quiet_of_same (less_any _ _ _)))
                        go_wp2_with fail
                        go_roundg (5 - (s + 1))
                        case measure => omega
                        case rel => exact ⟨p + 1, s + 1, d3, by go_num, by go_num, by omega, Nat.le_refl _, by omega, by omega, hd3, Lib.hid (S5.out.drewN nq), HQ, HS1⟩
                      · go_wp2_with fail
                        go_big_quiet (first | (go_at_call 94; refine Calls.quiet_of_same (less_any _ _ _)))
                        have S6 := Lib.hid (S5.out.drewN nq)
                        have f0 : (wr.drewN nq).cell? ⟨g, j + 1, none⟩ = some (.int .u64 x) := e0
                        have f1 : (wr.drewN nq).cell? ⟨g, j, none⟩ = some (.int .u64 y) := e1
                        have hfw' : ∀ t, (wr.drewN nq).frozen? ⟨g, t, none⟩ = false := hfw
                        clear e0 e1 hfw S5
                        generalize wr.drewN nq = W4 at S6 f0 f1 hfw' ⊢
                        clear nq
                        go_wp2_with fail
                        go_region
                        go_wp2_with fail
                        go_roundg (b - (j + 1))
                        case measure => omega
                        case rel => exact ⟨j + 1, Sort.swp d3 (j + 1) j, by first | rfl | go_num, by omega, by omega, Nat.le_refl _, by rw [swp_sz]; exact hd3, Lib.hid (S6.out.swap (j + 1) j y x HY.out.symm HX.out.symm), Lib.hid (swp_perm (by omega) (by omega) (by omega) (by omega) (by omega) HQ.out), Lib.hid (HS1.out.congrA (fun t ht => by rw [Sort.swp_get d3 (by omega) (by omega), if_neg (by omega), if_neg (by omega)]))⟩
                    · have hjz : ¬ (j : Int) + 1 < (b : Int) := by omega
                      go_wp2_with fail
                      go_roundg (5 - (s + 1))
                      case measure => omega
                      case rel => exact ⟨p + 1, s + 1, d3, by go_num, by go_num, by omega, Nat.le_refl _, by omega, by omega, hd3, S5, HQ, HS1⟩
                · have h3z : ¬ 2 ≤ (b : Int) - ((p : Int) + 1) := by omega
                  go_wp2_with fail
                  go_roundg (5 - (s + 1))
                  case measure => omega
                  case rel => exact ⟨p + 1, s + 1, d2, by go_num, by go_num, by omega, Nat.le_refl _, by omega, by omega, hd2, S4, HQ, HS1⟩
        · obtain rfl : b = j := by omega
          have hltz' : ¬ (b : Int) < (b : Int) := by omega
          go_wp2_with fail
          go_big_quiet (first | (go_at_call 94; refine Calls.quiet_of_same (less_any _ _ _)))
          go_wp2_with fail
          go_ret
          exact ⟨true, dk, rfl, HP.out, fun _ => HSJ.out, SJ.out.drewN nq⟩
    · have hsz5 : ¬ (s : Int) < 5 := by omega
      go_wp2_with fail
      go_ret
      exact ⟨false, dk, rfl, HP.out, fun h => absurd h (by simp), S1.out⟩
end Go.Proofs.YtjefkhieihigiaaGreat

namespace Go.Proofs.YtjefkhieihigiaaGreat
set_option linter.unusedVariables false
set_option linter.unusedSimpArgs false
open Go.Joins Go.ChangeShapes Go.WideShapes Go.ChangeAt Go.RowKit Go.Deep

section
variable {α : Type} [Inhabited α]
theorem up_go (p : α → Bool) (d : Array α) (j i : Nat) (h : i ≤ j) (hp : p d[i]! = true) : Sort.scanUp p d j i = Sort.scanUp p d j (i + 1) := by
  conv => lhs; unfold Sort.scanUp
  rw [hp, decide_eq_true h]
  rfl
theorem up_end (p : α → Bool) (d : Array α) (j i : Nat) (h : ¬ i ≤ j ∨ p d[i]! = false) : Sort.scanUp p d j i = i := by
  unfold Sort.scanUp
  rcases h with h | h
  · rw [decide_eq_false h, Bool.false_and]; rfl
  · rw [h, Bool.and_false]; rfl
theorem dn_go (p : α → Bool) (d : Array α) (i j : Nat) (h : i ≤ j + 1) (hp : p d[j + 1]! = true) : Sort.scanDown p d i (j + 1) = Sort.scanDown p d i j := by
  conv => lhs; unfold Sort.scanDown
  rw [hp, decide_eq_true h]
  rfl
theorem dn_end (p : α → Bool) (d : Array α) (i j : Nat) (h : ¬ i ≤ j ∨ p d[j]! = false) : Sort.scanDown p d i j = j := by
  cases j with
  | zero => rfl
  | succ j =>
    unfold Sort.scanDown
    rcases h with h | h
    · rw [decide_eq_false h, Bool.false_and]; rfl
    · rw [h, Bool.and_false]; rfl
end
theorem peq_break (a i j : Nat) (d : Array Int) (i2 j2 : Nat) (h1 : Sort.scanUp (fun x => !ltI d[a]! x) d j i = i2) (h2 : Sort.scanDown (fun x => ltI d[a]! x) d i2 j = j2) (h : j2 < i2) : Sort.partEqLoop ltI a i j d = (i2, d) := by
  rw [Sort.partEqLoop_eq, h1, h2, if_pos h]
theorem peq_go (a i j : Nat) (d : Array Int) (i2 j2 : Nat) (h1 : Sort.scanUp (fun x => !ltI d[a]! x) d j i = i2) (h2 : Sort.scanDown (fun x => ltI d[a]! x) d i2 j = j2) (h : ¬ j2 < i2) : Sort.partEqLoop ltI a i j d = Sort.partEqLoop ltI a (i2 + 1) (j2 - 1) (Sort.swp d i2 j2) := by
  rw [Sort.partEqLoop_eq, h1, h2, if_neg h]
set_option maxRecDepth 100000 in
set_option maxHeartbeats 4000000 in
theorem peq_any (w0 : World) (g cap : Nat) (e : TypeId) (d : Array Int) (w : World) (S : Sw w0 g cap e d w) (a b pv : Nat) (hap : a ≤ pv) (hpb : pv < b) (hb : b ≤ d.size) (hsz : d.size < 100000) :
    Calls Tryz.prog 95 #[.slice (some ⟨g, 0, none⟩) d.size cap, .int .i64 a, .int .i64 b, .int .i64 pv] w fun e' w' => e' = .returned (.int .i64 ((Sort.partitionEqual ltI d a b pv).1 : Int)) ∧ Sw w0 g cap e (Sort.partitionEqual ltI d a b pv).2 w' := by
  have S0 := Lib.hid S
  have e0 : w.cell? ⟨g, a, none⟩ = some (.int .u64 d[a]!) := S.c _ (by omega)
  have e1 : w.cell? ⟨g, pv, none⟩ = some (.int .u64 d[pv]!) := S.c _ (by omega)
  have hfw : ∀ t, w.frozen? ⟨g, t, none⟩ = false := S.f
  have hd1 : (Sort.swp d a pv).size = d.size := swp_sz _ _ _
  obtain ⟨N, hN⟩ : ∃ N, d.size = N := ⟨_, rfl⟩
  rw [hN] at hb hsz hd1
  rw [hN]
  have haN : a < N := by omega
  have hpN : pv < N := by omega
  obtain ⟨x, hx⟩ : ∃ x, d[a]! = x := ⟨_, rfl⟩
  obtain ⟨y, hy⟩ : ∃ y, d[pv]! = y := ⟨_, rfl⟩
  rw [hx] at e0
  rw [hy] at e1
  have HPE : Hid (Sort.partitionEqual ltI d a b pv = Sort.partEqLoop ltI a (a + 1) (b - 1) (Sort.swp d a pv)) := Lib.hid rfl
  have S1 : Hid (Sw w0 g cap e (Sort.swp d a pv) ((w.setCell ⟨g, a, none⟩ (.int .u64 y)).setCell ⟨g, pv, none⟩ (.int .u64 x)).drew) := Lib.hid (S.swap a pv y x hy.symm hx.symm)
  obtain ⟨r, hr⟩ : ∃ r, Sort.partitionEqual ltI d a b pv = r := ⟨_, rfl⟩
  rw [hr] at HPE
  rw [hr]
  have hPV : ∃ z, (Sort.swp d a pv)[a]! = z := ⟨_, rfl⟩
  obtain ⟨d1, hdd⟩ : ∃ d1, Sort.swp d a pv = d1 := ⟨_, rfl⟩
  rw [hdd] at HPE S1 hd1
  have hc : ∀ (Q : World → Prop), Q (((w.setCell ⟨g, a, none⟩ (.int .u64 y)).setCell ⟨g, pv, none⟩ (.int .u64 x)).drew) → Q (((w.setCell ⟨g, a, none⟩ (.int .u64 y)).setCell ⟨g, pv, none⟩ (.int .u64 x)).drew) := fun _ h => h
  clear S hN hr hPV hdd hc
  go_enter Tryz.func95, Tryz.ntmps95
  by_cases hpa : pv = a
  · subst hpa
    obtain rfl : x = y := by rw [← hx, ← hy]
    clear hx hy S0
    go_wp2_with fail
    go_region
    obtain ⟨W1, hW1⟩ : ∃ W1, ((w.setCell ⟨g, pv, none⟩ (.int .u64 x)).setCell ⟨g, pv, none⟩ (.int .u64 x)).drew = W1 := ⟨_, rfl⟩
    rw [hW1] at S1 ⊢
    clear hW1 e0 e1 hfw
    go_wp2_with fail
    go_loopg [9, 10] b (fun k vi vj wr => ∃ (i j : Nat) (dk : Array Int), vi = .int .i64 i ∧ vj = .int .i64 j ∧ pv < i ∧ i ≤ j + 1 ∧ j < b ∧ j ≤ k ∧ dk.size = N ∧ Hid (Sw w0 g cap e dk wr) ∧ Hid (Sort.partEqLoop ltI pv i j dk = r))
    case atStart => exact ⟨pv + 1, b - 1, d1, by go_num, by congr 1; omega, by omega, by omega, by omega, by omega, hd1, S1, Lib.hid HPE.out.symm⟩
    case round =>
      clear S1 HPE hd1
      obtain ⟨i, j, dk, rfl, rfl, hai, hij, hjb, hk, hds, SC, HR⟩ := hrel
      obtain ⟨z, hz⟩ : ∃ z, dk[pv]! = z := ⟨_, rfl⟩
      have HPV := Lib.hid hz
      clear hz
      go_step
      go_step
      go_cut [9, 83] from 29 (fun s9 s83 wc => s83 = undef ∧ ∃ i2 : Nat, s9 = .int .i64 i2 ∧ i ≤ i2 ∧ i2 ≤ j + 1 ∧ Hid (Sw w0 g cap e dk wc) ∧ Hid (Sort.scanUp (fun x => !ltI dk[pv]! x) dk j i = i2) ∧ Hid (i2 ≤ j → (fun x => !ltI dk[pv]! x) dk[i2]! = false))
      case first =>
        go_wp2_with fail
        go_loopg [9] (j + 1 - i) (fun k vi wr => ∃ (i2 : Nat), vi = .int .i64 i2 ∧ i ≤ i2 ∧ i2 ≤ j + 1 ∧ j + 1 - i2 ≤ k ∧ Hid (Sw w0 g cap e dk wr) ∧ Hid (Sort.scanUp (fun x => !ltI dk[pv]! x) dk j i2 = Sort.scanUp (fun x => !ltI dk[pv]! x) dk j i))
        case atStart => exact ⟨i, rfl, Nat.le_refl _, hij, Nat.le_refl _, SC, Lib.hid rfl⟩
        case round =>
          clear SC
          obtain ⟨i2, rfl, h1, h2, hk2, SJ, HE⟩ := hrel
          have hfw : ∀ t, wr.frozen? ⟨g, t, none⟩ = false := SJ.out.f
          by_cases hle : i2 ≤ j
          · have hltz : (i2 : Int) ≤ (j : Int) := by omega
            have hxN : i2 < N := by omega
            have e0 : wr.cell? ⟨g, i2, none⟩ = some (.int .u64 dk[i2]!) := SJ.out.c _ (by omega)
            have e1 : wr.cell? ⟨g, pv, none⟩ = some (.int .u64 dk[pv]!) := SJ.out.c _ (by omega)
            obtain ⟨x, hx⟩ : ∃ x, dk[i2]! = x := ⟨_, rfl⟩
            rw [hx] at e0
            have HX := Lib.hid hx
            rw [HPV.out] at e1
            clear hx
            cases hl : ltI z x
            · go_wp2_with fail
              go_big_quiet (first | (go_at_call 94; refine Calls.quiet_of_same (less_any _ _ _)))
              go_wp2_with fail
              go_roundg (j + 1 - (i2 + 1))
              case measure => omega
              case rel => exact ⟨i2 + 1, by go_num, by omega, by omega, Nat.le_refl _, Lib.hid (SJ.out.drewN nq), Lib.hid (by rw [← HE.out, up_go _ _ _ _ hle (by simp [HX.out, HPV.out, hl])])⟩
            · go_wp2_with fail
              go_big_quiet (first | (go_at_call 94; refine Calls.quiet_of_same (less_any _ _ _)))
              go_wp2_with fail
              go_meet
              case rel => exact ⟨rfl, i2, rfl, h1, h2, Lib.hid (SJ.out.drewN nq), Lib.hid (by rw [← HE.out, up_end _ _ _ _ (Or.inr (by simp [HX.out, HPV.out, hl]))]), Lib.hid (fun _ => by simp [HX.out, HPV.out, hl])⟩
          · have hltz : decide ((i2 : Int) ≤ (j : Int)) = false := decide_eq_false (by omega)
            go_wp2_with fail
            go_big_quiet (first | (go_at_call 94; refine Calls.quiet_of_same (less_any _ _ _)))
            go_wp2_with fail
            go_meet
            case rel => exact ⟨rfl, i2, rfl, h1, h2, Lib.hid (SJ.out.drewN nq), Lib.hid (by rw [← HE.out, up_end _ _ _ _ (Or.inl hle)]), Lib.hid (fun h => absurd h hle)⟩
      case rest =>
        clear SC
        obtain ⟨rfl, i2, rfl, hii, hij2, SC, HU, HUF⟩ := hcut
        go_step
        go_step
        go_cut [10, 83] from 29 (fun s9 s83 wc => s83 = undef ∧ ∃ j2 : Nat, s9 = .int .i64 j2 ∧ j2 ≤ j ∧ i2 ≤ j2 + 1 ∧ Hid (Sw w0 g cap e dk wc) ∧ Hid (Sort.scanDown (fun x => ltI dk[pv]! x) dk i2 j = j2) ∧ Hid (i2 ≤ j2 → (fun x => ltI dk[pv]! x) dk[j2]! = false))
        case first =>
          go_wp2_with fail
          go_loopg [10] j (fun k vi wr => ∃ (j2 : Nat), vi = .int .i64 j2 ∧ j2 ≤ j ∧ i2 ≤ j2 + 1 ∧ j2 ≤ k ∧ Hid (Sw w0 g cap e dk wr) ∧ Hid (Sort.scanDown (fun x => ltI dk[pv]! x) dk i2 j2 = Sort.scanDown (fun x => ltI dk[pv]! x) dk i2 j))
          case atStart => exact ⟨j, rfl, Nat.le_refl _, hij2, Nat.le_refl _, SC, Lib.hid rfl⟩
          case round =>
            clear SC
            obtain ⟨j2, rfl, h1, h2, hk2, SJ, HE⟩ := hrel
            have hfw : ∀ t, wr.frozen? ⟨g, t, none⟩ = false := SJ.out.f
            by_cases hle : i2 ≤ j2
            · obtain ⟨q, rfl⟩ : ∃ q, j2 = q + 1 := ⟨j2 - 1, by omega⟩
              have hltz : (i2 : Int) ≤ (q : Int) + 1 := by omega
              have qq : (q : Int) + 1 - 1 = (q : Int) := by omega
              have hxN : q + 1 < N := by omega
              have e0 : wr.cell? ⟨g, q + 1, none⟩ = some (.int .u64 dk[q + 1]!) := SJ.out.c _ (by omega)
              have e1 : wr.cell? ⟨g, pv, none⟩ = some (.int .u64 dk[pv]!) := SJ.out.c _ (by omega)
              obtain ⟨x, hx⟩ : ∃ x, dk[q + 1]! = x := ⟨_, rfl⟩
              rw [hx] at e0
              have HX := Lib.hid hx
              rw [HPV.out] at e1
              clear hx
              cases hl : ltI z x
              · go_wp2_with fail
                go_big_quiet (first | (go_at_call 94; refine Calls.quiet_of_same (less_any _ _ _)))
                go_wp2_with fail
                go_meet
                case rel => exact ⟨rfl, q + 1, by go_num, h1, h2, Lib.hid (SJ.out.drewN nq), Lib.hid (by rw [← HE.out, dn_end _ _ _ _ (Or.inr (by simp [HX.out, HPV.out, hl]))]), Lib.hid (fun _ => by simp [HX.out, HPV.out, hl])⟩
              · go_wp2_with fail
                go_big_quiet (first | (go_at_call 94; refine Calls.quiet_of_same (less_any _ _ _)))
                go_wp2_with fail
                go_roundg q
                case measure => omega
                case rel => exact ⟨q, by go_num, by omega, by omega, Nat.le_refl _, Lib.hid (SJ.out.drewN nq), Lib.hid (by rw [← HE.out, dn_go _ _ _ _ hle (by simp [HX.out, HPV.out, hl])])⟩
            · have hltz : decide ((i2 : Int) ≤ (j2 : Int)) = false := decide_eq_false (by omega)
              go_wp2_with fail
              go_big_quiet (first | (go_at_call 94; refine Calls.quiet_of_same (less_any _ _ _)))
              go_wp2_with fail
              go_meet
              case rel => exact ⟨rfl, j2, rfl, h1, h2, Lib.hid (SJ.out.drewN nq), Lib.hid (by rw [← HE.out, dn_end _ _ _ _ (Or.inl hle)]), Lib.hid (fun h => absurd h hle)⟩
        case rest =>
          clear SC
          obtain ⟨rfl, j2, rfl, hjj, hij3, SC, HD, HDF⟩ := hcut
          by_cases hbr : j2 < i2
          · have hbz : (j2 : Int) < (i2 : Int) := by omega
            have hrr : r = (i2, dk) := by rw [← HR.out]; exact peq_break pv i j dk i2 j2 HU.out HD.out hbr
            subst hrr
            go_wp2_with fail
            go_ret
            exact ⟨rfl, SC.out⟩
          · have hbz : ¬ (j2 : Int) < (i2 : Int) := by omega
            have hiN : i2 < N := by omega
            have hjN : j2 < N := by omega
            have e0 : wc.cell? ⟨g, i2, none⟩ = some (.int .u64 dk[i2]!) := SC.out.c _ (by omega)
            have e1 : wc.cell? ⟨g, j2, none⟩ = some (.int .u64 dk[j2]!) := SC.out.c _ (by omega)
            have hfw : ∀ t, wc.frozen? ⟨g, t, none⟩ = false := SC.out.f
            obtain ⟨x2, hx⟩ : ∃ x, dk[i2]! = x := ⟨_, rfl⟩
            obtain ⟨y2, hy⟩ : ∃ y, dk[j2]! = y := ⟨_, rfl⟩
            rw [hx] at e0
            rw [hy] at e1
            have HX := Lib.hid hx
            have HY := Lib.hid hy
            clear hx hy
            have HG : Hid (Sort.partEqLoop ltI pv (i2 + 1) (j2 - 1) (Sort.swp dk i2 j2) = r) := Lib.hid (by rw [← HR.out]; exact (peq_go pv i j dk i2 j2 HU.out HD.out hbr).symm)
            obtain ⟨q, rfl⟩ : ∃ q, j2 = q + 1 := ⟨j2 - 1, by omega⟩
            have qq : (q : Int) + 1 - 1 = (q : Int) := by omega
            rw [Nat.add_sub_cancel] at HG
            have heq : i2 ≠ q + 1 := by
              intro he
              have h1 := HUF.out (by omega)
              have h2 := HDF.out (by omega)
              simp only [he] at h1 h2
              rw [h2] at h1
              cases h1
            go_wp2_with fail
            go_region
            go_wp2_with fail
            go_roundg q
            case measure => omega
            case rel => exact ⟨i2 + 1, q, Sort.swp dk i2 (q + 1), by go_num, by go_num, by omega, by omega, by omega, Nat.le_refl _, by rw [swp_sz]; exact hds, Lib.hid (SC.out.swap i2 (q + 1) y2 x2 HY.out.symm HX.out.symm), HG⟩
  · have hpa' : a ≠ pv := fun h => hpa h.symm
    clear hx hy S0
    go_wp2_with fail
    go_region
    obtain ⟨W1, hW1⟩ : ∃ W1, ((w.setCell ⟨g, a, none⟩ (.int .u64 y)).setCell ⟨g, pv, none⟩ (.int .u64 x)).drew = W1 := ⟨_, rfl⟩
    rw [hW1] at S1 ⊢
    clear hW1 e0 e1 hfw
    go_wp2_with fail
    go_loopg [9, 10] b (fun k vi vj wr => ∃ (i j : Nat) (dk : Array Int), vi = .int .i64 i ∧ vj = .int .i64 j ∧ a < i ∧ i ≤ j + 1 ∧ j < b ∧ j ≤ k ∧ dk.size = N ∧ Hid (Sw w0 g cap e dk wr) ∧ Hid (Sort.partEqLoop ltI a i j dk = r))
    case atStart => exact ⟨a + 1, b - 1, d1, by go_num, by congr 1; omega, by omega, by omega, by omega, by omega, hd1, S1, Lib.hid HPE.out.symm⟩
    case round =>
      clear S1 HPE hd1
      obtain ⟨i, j, dk, rfl, rfl, hai, hij, hjb, hk, hds, SC, HR⟩ := hrel
      obtain ⟨z, hz⟩ : ∃ z, dk[a]! = z := ⟨_, rfl⟩
      have HPV := Lib.hid hz
      clear hz
      go_step
      go_step
      go_cut [9, 83] from 29 (fun s9 s83 wc => s83 = undef ∧ ∃ i2 : Nat, s9 = .int .i64 i2 ∧ i ≤ i2 ∧ i2 ≤ j + 1 ∧ Hid (Sw w0 g cap e dk wc) ∧ Hid (Sort.scanUp (fun x => !ltI dk[a]! x) dk j i = i2) ∧ Hid (i2 ≤ j → (fun x => !ltI dk[a]! x) dk[i2]! = false))
      case first =>
        go_wp2_with fail
        go_loopg [9] (j + 1 - i) (fun k vi wr => ∃ (i2 : Nat), vi = .int .i64 i2 ∧ i ≤ i2 ∧ i2 ≤ j + 1 ∧ j + 1 - i2 ≤ k ∧ Hid (Sw w0 g cap e dk wr) ∧ Hid (Sort.scanUp (fun x => !ltI dk[a]! x) dk j i2 = Sort.scanUp (fun x => !ltI dk[a]! x) dk j i))
        case atStart => exact ⟨i, rfl, Nat.le_refl _, hij, Nat.le_refl _, SC, Lib.hid rfl⟩
        case round =>
          clear SC
          obtain ⟨i2, rfl, h1, h2, hk2, SJ, HE⟩ := hrel
          have hfw : ∀ t, wr.frozen? ⟨g, t, none⟩ = false := SJ.out.f
          by_cases hle : i2 ≤ j
          · have hltz : (i2 : Int) ≤ (j : Int) := by omega
            have hxN : i2 < N := by omega
            have e0 : wr.cell? ⟨g, i2, none⟩ = some (.int .u64 dk[i2]!) := SJ.out.c _ (by omega)
            have e1 : wr.cell? ⟨g, a, none⟩ = some (.int .u64 dk[a]!) := SJ.out.c _ (by omega)
            obtain ⟨x, hx⟩ : ∃ x, dk[i2]! = x := ⟨_, rfl⟩
            rw [hx] at e0
            have HX := Lib.hid hx
            rw [HPV.out] at e1
            clear hx
            cases hl : ltI z x
            · go_wp2_with fail
              go_big_quiet (first | (go_at_call 94; refine Calls.quiet_of_same (less_any _ _ _)))
              go_wp2_with fail
              go_roundg (j + 1 - (i2 + 1))
              case measure => omega
              case rel => exact ⟨i2 + 1, by go_num, by omega, by omega, Nat.le_refl _, Lib.hid (SJ.out.drewN nq), Lib.hid (by rw [← HE.out, up_go _ _ _ _ hle (by simp [HX.out, HPV.out, hl])])⟩
            · go_wp2_with fail
              go_big_quiet (first | (go_at_call 94; refine Calls.quiet_of_same (less_any _ _ _)))
              go_wp2_with fail
              go_meet
              case rel => exact ⟨rfl, i2, rfl, h1, h2, Lib.hid (SJ.out.drewN nq), Lib.hid (by rw [← HE.out, up_end _ _ _ _ (Or.inr (by simp [HX.out, HPV.out, hl]))]), Lib.hid (fun _ => by simp [HX.out, HPV.out, hl])⟩
          · have hltz : decide ((i2 : Int) ≤ (j : Int)) = false := decide_eq_false (by omega)
            go_wp2_with fail
            go_big_quiet (first | (go_at_call 94; refine Calls.quiet_of_same (less_any _ _ _)))
            go_wp2_with fail
            go_meet
            case rel => exact ⟨rfl, i2, rfl, h1, h2, Lib.hid (SJ.out.drewN nq), Lib.hid (by rw [← HE.out, up_end _ _ _ _ (Or.inl hle)]), Lib.hid (fun h => absurd h hle)⟩
      case rest =>
        clear SC
        obtain ⟨rfl, i2, rfl, hii, hij2, SC, HU, HUF⟩ := hcut
        go_step
        go_step
        go_cut [10, 83] from 29 (fun s9 s83 wc => s83 = undef ∧ ∃ j2 : Nat, s9 = .int .i64 j2 ∧ j2 ≤ j ∧ i2 ≤ j2 + 1 ∧ Hid (Sw w0 g cap e dk wc) ∧ Hid (Sort.scanDown (fun x => ltI dk[a]! x) dk i2 j = j2) ∧ Hid (i2 ≤ j2 → (fun x => ltI dk[a]! x) dk[j2]! = false))
        case first =>
          go_wp2_with fail
          go_loopg [10] j (fun k vi wr => ∃ (j2 : Nat), vi = .int .i64 j2 ∧ j2 ≤ j ∧ i2 ≤ j2 + 1 ∧ j2 ≤ k ∧ Hid (Sw w0 g cap e dk wr) ∧ Hid (Sort.scanDown (fun x => ltI dk[a]! x) dk i2 j2 = Sort.scanDown (fun x => ltI dk[a]! x) dk i2 j))
          case atStart => exact ⟨j, rfl, Nat.le_refl _, hij2, Nat.le_refl _, SC, Lib.hid rfl⟩
          case round =>
            clear SC
            obtain ⟨j2, rfl, h1, h2, hk2, SJ, HE⟩ := hrel
            have hfw : ∀ t, wr.frozen? ⟨g, t, none⟩ = false := SJ.out.f
            by_cases hle : i2 ≤ j2
            · obtain ⟨q, rfl⟩ : ∃ q, j2 = q + 1 := ⟨j2 - 1, by omega⟩
              have hltz : (i2 : Int) ≤ (q : Int) + 1 := by omega
              have qq : (q : Int) + 1 - 1 = (q : Int) := by omega
              have hxN : q + 1 < N := by omega
              have e0 : wr.cell? ⟨g, q + 1, none⟩ = some (.int .u64 dk[q + 1]!) := SJ.out.c _ (by omega)
              have e1 : wr.cell? ⟨g, a, none⟩ = some (.int .u64 dk[a]!) := SJ.out.c _ (by omega)
              obtain ⟨x, hx⟩ : ∃ x, dk[q + 1]! = x := ⟨_, rfl⟩
              rw [hx] at e0
              have HX := Lib.hid hx
              rw [HPV.out] at e1
              clear hx
              cases hl : ltI z x
              · go_wp2_with fail
                go_big_quiet (first | (go_at_call 94; refine Calls.quiet_of_same (less_any _ _ _)))
                go_wp2_with fail
                go_meet
                case rel => exact ⟨rfl, q + 1, by go_num, h1, h2, Lib.hid (SJ.out.drewN nq), Lib.hid (by rw [← HE.out, dn_end _ _ _ _ (Or.inr (by simp [HX.out, HPV.out, hl]))]), Lib.hid (fun _ => by simp [HX.out, HPV.out, hl])⟩
              · go_wp2_with fail
                go_big_quiet (first | (go_at_call 94; refine Calls.quiet_of_same (less_any _ _ _)))
                go_wp2_with fail
                go_roundg q
                case measure => omega
                case rel => exact ⟨q, by go_num, by omega, by omega, Nat.le_refl _, Lib.hid (SJ.out.drewN nq), Lib.hid (by rw [← HE.out, dn_go _ _ _ _ hle (by simp [HX.out, HPV.out, hl])])⟩
            · have hltz : decide ((i2 : Int) ≤ (j2 : Int)) = false := decide_eq_false (by omega)
              go_wp2_with fail
              go_big_quiet (first | (go_at_call 94; refine Calls.quiet_of_same (less_any _ _ _)))
              go_wp2_with fail
              go_meet
              case rel => exact ⟨rfl, j2, rfl, h1, h2, Lib.hid (SJ.out.drewN nq), Lib.hid (by rw [← HE.out, dn_end _ _ _ _ (Or.inl hle)]), Lib.hid (fun h => absurd h hle)⟩
        case rest =>
          clear SC
          obtain ⟨rfl, j2, rfl, hjj, hij3, SC, HD, HDF⟩ := hcut
          by_cases hbr : j2 < i2
          · have hbz : (j2 : Int) < (i2 : Int) := by omega
            have hrr : r = (i2, dk) := by rw [← HR.out]; exact peq_break a i j dk i2 j2 HU.out HD.out hbr
            subst hrr
            go_wp2_with fail
            go_ret
            exact ⟨rfl, SC.out⟩
          · have hbz : ¬ (j2 : Int) < (i2 : Int) := by omega
            have hiN : i2 < N := by omega
            have hjN : j2 < N := by omega
            have e0 : wc.cell? ⟨g, i2, none⟩ = some (.int .u64 dk[i2]!) := SC.out.c _ (by omega)
            have e1 : wc.cell? ⟨g, j2, none⟩ = some (.int .u64 dk[j2]!) := SC.out.c _ (by omega)
            have hfw : ∀ t, wc.frozen? ⟨g, t, none⟩ = false := SC.out.f
            obtain ⟨x2, hx⟩ : ∃ x, dk[i2]! = x := ⟨_, rfl⟩
            obtain ⟨y2, hy⟩ : ∃ y, dk[j2]! = y := ⟨_, rfl⟩
            rw [hx] at e0
            rw [hy] at e1
            have HX := Lib.hid hx
            have HY := Lib.hid hy
            clear hx hy
            have HG : Hid (Sort.partEqLoop ltI a (i2 + 1) (j2 - 1) (Sort.swp dk i2 j2) = r) := Lib.hid (by rw [← HR.out]; exact (peq_go a i j dk i2 j2 HU.out HD.out hbr).symm)
            obtain ⟨q, rfl⟩ : ∃ q, j2 = q + 1 := ⟨j2 - 1, by omega⟩
            have qq : (q : Int) + 1 - 1 = (q : Int) := by omega
            rw [Nat.add_sub_cancel] at HG
            have heq : i2 ≠ q + 1 := by
              intro he
              have h1 := HUF.out (by omega)
              have h2 := HDF.out (by omega)
              simp only [he] at h1 h2
              rw [h2] at h1
              cases h1
            go_wp2_with fail
            go_region
            go_wp2_with fail
            go_roundg q
            case measure => omega
            case rel => exact ⟨i2 + 1, q, Sort.swp dk i2 (q + 1), by go_num, by go_num, by omega, by omega, by omega, Nat.le_refl _, by rw [swp_sz]; exact hds, Lib.hid (SC.out.swap i2 (q + 1) y2 x2 HY.out.symm HX.out.symm), HG⟩
end Go.Proofs.YtjefkhieihigiaaGreat

