/- The parting of a row of uint64s: contract. -/
import Derived.Test.YtjefkhieihigiaaGreatSo3
namespace Go.Proofs.YtjefkhieihigiaaGreat
set_option linter.unusedVariables false
set_option linter.unusedSimpArgs false
open Go.Joins Go.ChangeShapes Go.WideShapes Go.ChangeAt Go.RowKit Go.Deep

theorem part_break (a i j : Nat) (d : Array Int) (i2 j2 : Nat) (h1 : Sort.scanUp (fun x => ltI x d[a]!) d j i = i2) (h2 : Sort.scanDown (fun x => !ltI x d[a]!) d i2 j = j2) (h : j2 < i2) : Sort.partLoop ltI a i j d = (j2, d) := by
  rw [Sort.partLoop_eq, h1, h2, if_pos h]
theorem part_go (a i j : Nat) (d : Array Int) (i2 j2 : Nat) (h1 : Sort.scanUp (fun x => ltI x d[a]!) d j i = i2) (h2 : Sort.scanDown (fun x => !ltI x d[a]!) d i2 j = j2) (h : ¬ j2 < i2) : Sort.partLoop ltI a i j d = Sort.partLoop ltI a (i2 + 1) (j2 - 1) (Sort.swp d i2 j2) := by
  rw [Sort.partLoop_eq, h1, h2, if_neg h]
theorem part_first (d : Array Int) (a b pv i2 j2 : Nat) (h1 : Sort.scanUp (fun x => ltI x (Sort.swp d a pv)[a]!) (Sort.swp d a pv) (b - 1) (a + 1) = i2) (h2 : Sort.scanDown (fun x => !ltI x (Sort.swp d a pv)[a]!) (Sort.swp d a pv) i2 (b - 1) = j2) :
    Sort.partition ltI d a b pv = if j2 < i2 then (j2, true, Sort.swp (Sort.swp d a pv) j2 a) else ((Sort.partLoop ltI a (i2 + 1) (j2 - 1) (Sort.swp (Sort.swp d a pv) i2 j2)).1, false, Sort.swp (Sort.partLoop ltI a (i2 + 1) (j2 - 1) (Sort.swp (Sort.swp d a pv) i2 j2)).2 (Sort.partLoop ltI a (i2 + 1) (j2 - 1) (Sort.swp (Sort.swp d a pv) i2 j2)).1 a) := by
  unfold Sort.partition
  simp only [h1, h2]
set_option maxRecDepth 100000 in
set_option maxHeartbeats 4000000 in
theorem part_any (w0 : World) (g cap : Nat) (e : TypeId) (d : Array Int) (w : World) (S : Sw w0 g cap e d w) (a b pv : Nat) (hap : a ≤ pv) (hpb : pv < b) (hb : b ≤ d.size) (hsz : d.size < 100000) :
    Calls Tryz.prog 96 #[.slice (some ⟨g, 0, none⟩) d.size cap, .int .i64 a, .int .i64 b, .int .i64 pv] w fun e' w' => e' = .returned (.tuple #[.int .i64 ((Sort.partition ltI d a b pv).1 : Int), .bool (Sort.partition ltI d a b pv).2.1]) ∧ Sw w0 g cap e (Sort.partition ltI d a b pv).2.2 w' := by
  have S0 := Lib.hid S
  have e0 : w.cell? ⟨g, a, none⟩ = some (.int .u64 d[a]!) := S.c _ (by omega)
  have e1 : w.cell? ⟨g, pv, none⟩ = some (.int .u64 d[pv]!) := S.c _ (by omega)
  have hfw : ∀ t, w.frozen? ⟨g, t, none⟩ = false := S.f
  have hds : (Sort.swp d a pv).size = d.size := swp_sz _ _ _
  obtain ⟨N, hN⟩ : ∃ N, d.size = N := ⟨_, rfl⟩
  rw [hN] at hb hsz hds
  rw [hN]
  have haN : a < N := by omega
  have hpN : pv < N := by omega
  obtain ⟨x, hx⟩ : ∃ x, d[a]! = x := ⟨_, rfl⟩
  obtain ⟨y, hy⟩ : ∃ y, d[pv]! = y := ⟨_, rfl⟩
  rw [hx] at e0
  rw [hy] at e1
  have HX0 := Lib.hid hx
  have HY0 := Lib.hid hy
  have HPF := Lib.hid (part_first d a b pv)
  have S1 : Hid (Sw w0 g cap e (Sort.swp d a pv) ((w.setCell ⟨g, a, none⟩ (.int .u64 y)).setCell ⟨g, pv, none⟩ (.int .u64 x)).drew) := Lib.hid (S.swap a pv y x hy.symm hx.symm)
  obtain ⟨r, hr⟩ : ∃ r, Sort.partition ltI d a b pv = r := ⟨_, rfl⟩
  rw [hr] at HPF
  rw [hr]
  obtain ⟨dk, hdd⟩ : ∃ d1, Sort.swp d a pv = d1 := ⟨_, rfl⟩
  rw [hdd] at HPF S1 hds
  clear S hN hr hdd hx hy S0
  go_enter Tryz.func96, Tryz.ntmps96
  go_upto_region 1 with fail
  go_cut [] from 12 (fun wc => Hid (Sw w0 g cap e dk wc))
  case first =>
    by_cases hpa : pv = a
    · subst hpa
      obtain rfl : x = y := by rw [← HX0.out, ← HY0.out]
      go_region
      go_wp2_with fail
      go_meet
      case rel => exact S1
    · have hpa' : a ≠ pv := fun h => hpa h.symm
      go_region
      go_wp2_with fail
      go_meet
      case rel => exact S1
  case rest =>
    clear S1 e0 e1 hfw
    have SC := hcut
    clear hcut
    obtain ⟨z, hz⟩ : ∃ z, dk[a]! = z := ⟨_, rfl⟩
    have HPV := Lib.hid hz
    clear hz
    obtain ⟨i, hi⟩ : ∃ i, a + 1 = i := ⟨_, rfl⟩
    obtain ⟨j, hj⟩ : ∃ j, b - 1 = j := ⟨_, rfl⟩
    have hiz : (a : Int) + 1 = (i : Int) := by omega
    have hjz : (b : Int) - 1 = (j : Int) := by omega
    have hij : i ≤ j + 1 := by omega
    have hai : a < i := by omega
    have hjb : j < b := by omega
    rw [hi, hj] at HPF
    clear hi hj
    go_upto_region 2 with fail
    go_cut [10, 11] from 12 (fun s10 s11 wc => s10 = .int .i64 i ∧ s11 = .int .i64 j ∧ Hid (Sw w0 g cap e dk wc))
    case first =>
      go_wp2_with fail
      go_meet
      case rel => exact ⟨rfl, rfl, SC⟩
    case rest =>
      clear SC
      obtain ⟨rfl, rfl, SC⟩ := hcut
      go_step
      go_step
      go_cut [10] from 30 (fun s9 wc => ∃ i2 : Nat, s9 = .int .i64 i2 ∧ i ≤ i2 ∧ i2 ≤ j + 1 ∧ Hid (Sw w0 g cap e dk wc) ∧ Hid (Sort.scanUp (fun x => ltI x dk[a]!) dk j i = i2) ∧ Hid (i2 ≤ j → (fun x => ltI x dk[a]!) dk[i2]! = false))
      case first =>
        go_wp2_with fail
        go_loopg [10] (j + 1 - i) (fun k vi wr => ∃ (i2 : Nat), vi = .int .i64 i2 ∧ i ≤ i2 ∧ i2 ≤ j + 1 ∧ j + 1 - i2 ≤ k ∧ Hid (Sw w0 g cap e dk wr) ∧ Hid (Sort.scanUp (fun x => ltI x dk[a]!) dk j i2 = Sort.scanUp (fun x => ltI x dk[a]!) dk j i))
        case atStart => exact ⟨i, rfl, Nat.le_refl _, hij, Nat.le_refl _, SC, Lib.hid rfl⟩
        case round =>
          clear SC
          obtain ⟨i2, rfl, h1, h2, hk2, SJ, HE⟩ := hrel
          have hfw : ∀ t, wr.frozen? ⟨g, t, none⟩ = false := SJ.out.f
          by_cases hle : i2 ≤ j
          · have hltz : (i2 : Int) ≤ (j : Int) := by omega
            have hxN : i2 < N := by omega
            have e0 : wr.cell? ⟨g, i2, none⟩ = some (.int .u64 dk[i2]!) := SJ.out.c _ (by omega)
            have e1 : wr.cell? ⟨g, a, none⟩ = some (.int .u64 dk[a]!) := SJ.out.c _ (by omega)
            obtain ⟨x, hx⟩ : ∃ x, dk[i2]! = x := ⟨_, rfl⟩
            rw [hx] at e0
            have HX := Lib.hid hx
            rw [HPV.out] at e1
            clear hx
            cases hl : ltI x z
            · go_wp2_with fail
              go_big_quiet (first | (go_at_call 94; refine Calls.quiet_of_same (less_any _ _ _)))
              go_wp2_with fail
              go_meet
              case rel => exact ⟨i2, rfl, h1, h2, Lib.hid (SJ.out.drewN nq), Lib.hid (by rw [← HE.out, up_end _ _ _ _ (Or.inr (by simp [HX.out, HPV.out, hl]))]), Lib.hid (fun _ => by simp [HX.out, HPV.out, hl])⟩
            · go_wp2_with fail
              go_big_quiet (first | (go_at_call 94; refine Calls.quiet_of_same (less_any _ _ _)))
              go_wp2_with fail
              go_roundg (j + 1 - (i2 + 1))
              case measure => omega
              case rel => exact ⟨i2 + 1, by go_num, by omega, by omega, Nat.le_refl _, Lib.hid (SJ.out.drewN nq), Lib.hid (by rw [← HE.out, up_go _ _ _ _ hle (by simp [HX.out, HPV.out, hl])])⟩
          · have hltz : decide ((i2 : Int) ≤ (j : Int)) = false := decide_eq_false (by omega)
            go_wp2_with fail
            go_big_quiet (first | (go_at_call 94; refine Calls.quiet_of_same (less_any _ _ _)))
            go_wp2_with fail
            go_meet
            case rel => exact ⟨i2, rfl, h1, h2, Lib.hid (SJ.out.drewN nq), Lib.hid (by rw [← HE.out, up_end _ _ _ _ (Or.inl hle)]), Lib.hid (fun h => absurd h hle)⟩
      case rest =>
        clear SC
        obtain ⟨i2, rfl, hii, hij2, SC, HU, HUF⟩ := hcut
        go_step
        go_step
        go_cut [11] from 30 (fun s9 wc => ∃ j2 : Nat, s9 = .int .i64 j2 ∧ j2 ≤ j ∧ i2 ≤ j2 + 1 ∧ Hid (Sw w0 g cap e dk wc) ∧ Hid (Sort.scanDown (fun x => !ltI x dk[a]!) dk i2 j = j2) ∧ Hid (i2 ≤ j2 → (fun x => !ltI x dk[a]!) dk[j2]! = false))
        case first =>
          go_wp2_with fail
          go_loopg [11] j (fun k vi wr => ∃ (j2 : Nat), vi = .int .i64 j2 ∧ j2 ≤ j ∧ i2 ≤ j2 + 1 ∧ j2 ≤ k ∧ Hid (Sw w0 g cap e dk wr) ∧ Hid (Sort.scanDown (fun x => !ltI x dk[a]!) dk i2 j2 = Sort.scanDown (fun x => !ltI x dk[a]!) dk i2 j))
          case atStart => exact ⟨j, rfl, Nat.le_refl _, hij2, Nat.le_refl _, SC, Lib.hid rfl⟩
          case round =>
            clear SC
            obtain ⟨j2, rfl, h1, h2, hk2, SJ, HE⟩ := hrel
            have hfw : ∀ t, wr.frozen? ⟨g, t, none⟩ = false := SJ.out.f
            by_cases hle : i2 ≤ j2
            · obtain ⟨q, rfl⟩ : ∃ q, j2 = q + 1 := ⟨j2 - 1, by omega⟩
              have hltz : (i2 : Int) ≤ (q : Int) + 1 := by omega
              have qq : (q : Int) + 1 - 1 = (q : Int) := by omega
              have hxN : q + 1 < N := by omega
              have e0 : wr.cell? ⟨g, q + 1, none⟩ = some (.int .u64 dk[q + 1]!) := SJ.out.c _ (by omega)
              have e1 : wr.cell? ⟨g, a, none⟩ = some (.int .u64 dk[a]!) := SJ.out.c _ (by omega)
              obtain ⟨x, hx⟩ : ∃ x, dk[q + 1]! = x := ⟨_, rfl⟩
              rw [hx] at e0
              have HX := Lib.hid hx
              rw [HPV.out] at e1
              clear hx
              cases hl : ltI x z
              · go_wp2_with fail
                go_big_quiet (first | (go_at_call 94; refine Calls.quiet_of_same (less_any _ _ _)))
                go_wp2_with fail
                go_roundg q
                case measure => omega
                case rel => exact ⟨q, by go_num, by omega, by omega, Nat.le_refl _, Lib.hid (SJ.out.drewN nq), Lib.hid (by rw [← HE.out, dn_go _ _ _ _ hle (by simp [HX.out, HPV.out, hl])])⟩
              · go_wp2_with fail
                go_big_quiet (first | (go_at_call 94; refine Calls.quiet_of_same (less_any _ _ _)))
                go_wp2_with fail
                go_meet
                case rel => exact ⟨q + 1, by go_num, h1, h2, Lib.hid (SJ.out.drewN nq), Lib.hid (by rw [← HE.out, dn_end _ _ _ _ (Or.inr (by simp [HX.out, HPV.out, hl]))]), Lib.hid (fun _ => by simp [HX.out, HPV.out, hl])⟩
            · have hltz : decide ((i2 : Int) ≤ (j2 : Int)) = false := decide_eq_false (by omega)
              go_wp2_with fail
              go_big_quiet (first | (go_at_call 94; refine Calls.quiet_of_same (less_any _ _ _)))
              go_wp2_with fail
              go_meet
              case rel => exact ⟨j2, rfl, h1, h2, Lib.hid (SJ.out.drewN nq), Lib.hid (by rw [← HE.out, dn_end _ _ _ _ (Or.inl hle)]), Lib.hid (fun h => absurd h hle)⟩
        case rest =>
          clear SC
          obtain ⟨j2, rfl, hjj, hij3, SC, HD, HDF⟩ := hcut
          have HR := Lib.hid (HPF.out i2 j2)
          rw [HPV.out] at HR
          by_cases hbr : j2 < i2
          · have hbz : (j2 : Int) < (i2 : Int) := by omega
            have hrr : r = (j2, true, Sort.swp dk j2 a) := by
              have := HPF.out i2 j2 HU.out HD.out
              rw [if_pos hbr] at this
              exact this
            subst hrr
            have hiN : a < N := by omega
            have hjN : j2 < N := by omega
            have e0 : wc.cell? ⟨g, j2, none⟩ = some (.int .u64 dk[j2]!) := SC.out.c _ (by omega)
            have e1 : wc.cell? ⟨g, a, none⟩ = some (.int .u64 dk[a]!) := SC.out.c _ (by omega)
            have hfw : ∀ t, wc.frozen? ⟨g, t, none⟩ = false := SC.out.f
            obtain ⟨x2, hx⟩ : ∃ x, dk[j2]! = x := ⟨_, rfl⟩
            obtain ⟨y2, hy⟩ : ∃ y, dk[a]! = y := ⟨_, rfl⟩
            rw [hx] at e0
            rw [hy] at e1
            have HX := Lib.hid hx
            have HY := Lib.hid hy
            clear hx hy
            by_cases hja : j2 = a
            · subst hja
              obtain rfl : x2 = y2 := by rw [← HX.out, ← HY.out]
              go_wp2_with fail
              go_region
              go_wp2_with fail
              go_ret2
              exact ⟨rfl, SC.out.swap j2 j2 x2 x2 HX.out.symm HX.out.symm⟩
            · have hja' : a ≠ j2 := fun h => hja h.symm
              go_wp2_with fail
              go_region
              go_wp2_with fail
              go_ret2
              exact ⟨rfl, SC.out.swap j2 a y2 x2 HY.out.symm HX.out.symm⟩
          · have hbz : ¬ (j2 : Int) < (i2 : Int) := by omega
            have hiN : i2 < N := by omega
            have hjN : j2 < N := by omega
            have hrr : r = ((Sort.partLoop ltI a (i2 + 1) (j2 - 1) (Sort.swp dk i2 j2)).1, false, Sort.swp (Sort.partLoop ltI a (i2 + 1) (j2 - 1) (Sort.swp dk i2 j2)).2 (Sort.partLoop ltI a (i2 + 1) (j2 - 1) (Sort.swp dk i2 j2)).1 a) := by
              have := HPF.out i2 j2 HU.out HD.out
              rw [if_neg hbr] at this
              exact this
            obtain ⟨q, rfl⟩ : ∃ q, j2 = q + 1 := ⟨j2 - 1, by omega⟩
            have qq : (q : Int) + 1 - 1 = (q : Int) := by omega
            rw [Nat.add_sub_cancel] at hrr
            have heq : i2 ≠ q + 1 := by
              intro he
              have h1 := HUF.out (by omega)
              have h2 := HDF.out (by omega)
              simp only [he] at h1 h2
              rw [h1] at h2
              cases h2
            have e0 : wc.cell? ⟨g, i2, none⟩ = some (.int .u64 dk[i2]!) := SC.out.c _ (by omega)
            have e1 : wc.cell? ⟨g, (q + 1), none⟩ = some (.int .u64 dk[(q + 1)]!) := SC.out.c _ (by omega)
            have hfw : ∀ t, wc.frozen? ⟨g, t, none⟩ = false := SC.out.f
            obtain ⟨x2, hx⟩ : ∃ x, dk[i2]! = x := ⟨_, rfl⟩
            obtain ⟨y2, hy⟩ : ∃ y, dk[(q + 1)]! = y := ⟨_, rfl⟩
            rw [hx] at e0
            rw [hy] at e1
            have HX := Lib.hid hx
            have HY := Lib.hid hy
            clear hx hy
            have hnd : (Sort.swp dk i2 (q + 1)).size = N := by rw [swp_sz]; exact hds
            have hpa : ∃ z2, (Sort.swp dk i2 (q + 1))[a]! = z2 := ⟨_, rfl⟩
            obtain ⟨i0, hi0⟩ : ∃ i0, i2 + 1 = i0 := ⟨_, rfl⟩
            have hi0z : (i2 : Int) + 1 = (i0 : Int) := by omega
            rw [hi0] at hrr
            have SN : Hid (Sw w0 g cap e (Sort.swp dk i2 (q + 1)) ((wc.setCell ⟨g, i2, none⟩ (.int .u64 y2)).setCell ⟨g, q + 1, none⟩ (.int .u64 x2)).drew) := Lib.hid (SC.out.swap i2 (q + 1) y2 x2 HY.out.symm HX.out.symm)
            have hai0 : a < i0 := by omega
            have hi0q : i0 ≤ q + 1 := by omega
            have hqb : q < b := by omega
            go_upto_region 10 with fail
            go_cut [] from 66 (fun wd => Hid (Sw w0 g cap e (Sort.swp dk i2 (q + 1)) wd))
            case first =>
              go_region
              go_wp2_with fail
              go_meet
              case rel => exact SN
            case rest =>
              clear SN SC e0 e1 hfw
              have SC := hcut
              clear hcut
              have HI0 := Lib.hid hi0
              clear hi0 HU HUF HD HDF HR HPV HX HY hpa
              generalize Sort.swp dk i2 (q + 1) = dk at hrr hnd SC ⊢
              go_wp2_with fail
              obtain ⟨rr, hrrd⟩ : ∃ rr, Sort.partLoop ltI a i0 q dk = rr := ⟨_, rfl⟩
              rw [hrrd] at hrr
              have HR0 := Lib.hid hrrd
              have HRR := Lib.hid hrr
              clear hrrd hrr
              go_loopg [10, 11] b (fun k vi vj wr => ∃ (i j : Nat) (dk' : Array Int), vi = .int .i64 i ∧ vj = .int .i64 j ∧ a < i ∧ i ≤ j + 1 ∧ j < b ∧ j ≤ k ∧ dk'.size = N ∧ Hid (Sw w0 g cap e dk' wr) ∧ Hid (Sort.partLoop ltI a i j dk' = rr))
              case atStart => exact ⟨i0, q, dk, rfl, rfl, hai0, hi0q, hqb, by omega, hnd, SC, HR0⟩
              case round =>
                clear SC hnd HR0
                obtain ⟨i, j, dk, rfl, rfl, hai, hij, hjb, hk, hds, SC, HR⟩ := hrel
                obtain ⟨z, hz⟩ : ∃ z, dk[a]! = z := ⟨_, rfl⟩
                have HPV := Lib.hid hz
                clear hz
                go_step
                go_step
                go_cut [10, 153, 154, 155, 156, 157, 158, 159, 160, 161, 162, 163, 164, 165, 166, 167] from 99 (fun s9 s153 s154 s155 s156 s157 s158 s159 s160 s161 s162 s163 s164 s165 s166 s167 wc => s153 = u153 ∧ s154 = u154 ∧ s155 = u155 ∧ s156 = u156 ∧ s157 = u157 ∧ s158 = u158 ∧ s159 = u159 ∧ s160 = u160 ∧ s161 = u161 ∧ s162 = u162 ∧ s163 = u163 ∧ s164 = u164 ∧ s165 = u165 ∧ s166 = u166 ∧ s167 = u167 ∧ ∃ i2 : Nat, s9 = .int .i64 i2 ∧ i ≤ i2 ∧ i2 ≤ j + 1 ∧ Hid (Sw w0 g cap e dk wc) ∧ Hid (Sort.scanUp (fun x => ltI x dk[a]!) dk j i = i2) ∧ Hid (i2 ≤ j → (fun x => ltI x dk[a]!) dk[i2]! = false))
                case first =>
                  go_wp2_with fail
                  go_loopg [10] (j + 1 - i) (fun k vi wr => ∃ (i2 : Nat), vi = .int .i64 i2 ∧ i ≤ i2 ∧ i2 ≤ j + 1 ∧ j + 1 - i2 ≤ k ∧ Hid (Sw w0 g cap e dk wr) ∧ Hid (Sort.scanUp (fun x => ltI x dk[a]!) dk j i2 = Sort.scanUp (fun x => ltI x dk[a]!) dk j i))
                  case atStart => exact ⟨i, rfl, Nat.le_refl _, hij, Nat.le_refl _, SC, Lib.hid rfl⟩
                  case round =>
                    clear SC
                    obtain ⟨i2, rfl, h1, h2, hk2, SJ, HE⟩ := hrel
                    have hfw : ∀ t, wr.frozen? ⟨g, t, none⟩ = false := SJ.out.f
                    by_cases hle : i2 ≤ j
                    · have hltz : (i2 : Int) ≤ (j : Int) := by omega
                      have hxN : i2 < N := by omega
                      have e0 : wr.cell? ⟨g, i2, none⟩ = some (.int .u64 dk[i2]!) := SJ.out.c _ (by omega)
                      have e1 : wr.cell? ⟨g, a, none⟩ = some (.int .u64 dk[a]!) := SJ.out.c _ (by omega)
                      obtain ⟨x, hx⟩ : ∃ x, dk[i2]! = x := ⟨_, rfl⟩
                      rw [hx] at e0
                      have HX := Lib.hid hx
                      rw [HPV.out] at e1
                      clear hx
                      cases hl : ltI x z
                      · go_wp2_with fail
                        go_big_quiet (first | (go_at_call 94; refine Calls.quiet_of_same (less_any _ _ _)))
                        go_wp2_with fail
                        go_meet
                        case rel => exact ⟨rfl, rfl, rfl, rfl, rfl, rfl, rfl, rfl, rfl, rfl, rfl, rfl, rfl, rfl, rfl, i2, rfl, h1, h2, Lib.hid (SJ.out.drewN nq), Lib.hid (by rw [← HE.out, up_end _ _ _ _ (Or.inr (by simp [HX.out, HPV.out, hl]))]), Lib.hid (fun _ => by simp [HX.out, HPV.out, hl])⟩
                      · go_wp2_with fail
                        go_big_quiet (first | (go_at_call 94; refine Calls.quiet_of_same (less_any _ _ _)))
                        go_wp2_with fail
                        go_roundg (j + 1 - (i2 + 1))
                        case measure => omega
                        case rel => exact ⟨i2 + 1, by go_num, by omega, by omega, Nat.le_refl _, Lib.hid (SJ.out.drewN nq), Lib.hid (by rw [← HE.out, up_go _ _ _ _ hle (by simp [HX.out, HPV.out, hl])])⟩
                    · have hltz : decide ((i2 : Int) ≤ (j : Int)) = false := decide_eq_false (by omega)
                      go_wp2_with fail
                      go_big_quiet (first | (go_at_call 94; refine Calls.quiet_of_same (less_any _ _ _)))
                      go_wp2_with fail
                      go_meet
                      case rel => exact ⟨rfl, rfl, rfl, rfl, rfl, rfl, rfl, rfl, rfl, rfl, rfl, rfl, rfl, rfl, rfl, i2, rfl, h1, h2, Lib.hid (SJ.out.drewN nq), Lib.hid (by rw [← HE.out, up_end _ _ _ _ (Or.inl hle)]), Lib.hid (fun h => absurd h hle)⟩
                case rest =>
                  clear SC
                  obtain ⟨rfl, rfl, rfl, rfl, rfl, rfl, rfl, rfl, rfl, rfl, rfl, rfl, rfl, rfl, rfl, i2, rfl, hii, hij2, SC, HU, HUF⟩ := hcut
                  go_step
                  go_step
                  go_cut [11, 153, 154, 155, 156, 157, 158, 159, 160, 161, 162, 163, 164, 165, 166, 167] from 99 (fun s9 s153 s154 s155 s156 s157 s158 s159 s160 s161 s162 s163 s164 s165 s166 s167 wc => s153 = u153 ∧ s154 = u154 ∧ s155 = u155 ∧ s156 = u156 ∧ s157 = u157 ∧ s158 = u158 ∧ s159 = u159 ∧ s160 = u160 ∧ s161 = u161 ∧ s162 = u162 ∧ s163 = u163 ∧ s164 = u164 ∧ s165 = u165 ∧ s166 = u166 ∧ s167 = u167 ∧ ∃ j2 : Nat, s9 = .int .i64 j2 ∧ j2 ≤ j ∧ i2 ≤ j2 + 1 ∧ Hid (Sw w0 g cap e dk wc) ∧ Hid (Sort.scanDown (fun x => !ltI x dk[a]!) dk i2 j = j2) ∧ Hid (i2 ≤ j2 → (fun x => !ltI x dk[a]!) dk[j2]! = false))
                  case first =>
                    go_wp2_with fail
                    go_loopg [11] j (fun k vi wr => ∃ (j2 : Nat), vi = .int .i64 j2 ∧ j2 ≤ j ∧ i2 ≤ j2 + 1 ∧ j2 ≤ k ∧ Hid (Sw w0 g cap e dk wr) ∧ Hid (Sort.scanDown (fun x => !ltI x dk[a]!) dk i2 j2 = Sort.scanDown (fun x => !ltI x dk[a]!) dk i2 j))
                    case atStart => exact ⟨j, rfl, Nat.le_refl _, hij2, Nat.le_refl _, SC, Lib.hid rfl⟩
                    case round =>
                      clear SC
                      obtain ⟨j2, rfl, h1, h2, hk2, SJ, HE⟩ := hrel
                      have hfw : ∀ t, wr.frozen? ⟨g, t, none⟩ = false := SJ.out.f
                      by_cases hle : i2 ≤ j2
                      · obtain ⟨q, rfl⟩ : ∃ q, j2 = q + 1 := ⟨j2 - 1, by omega⟩
                        have hltz : (i2 : Int) ≤ (q : Int) + 1 := by omega
                        have qq : (q : Int) + 1 - 1 = (q : Int) := by omega
                        have hxN : q + 1 < N := by omega
                        have e0 : wr.cell? ⟨g, q + 1, none⟩ = some (.int .u64 dk[q + 1]!) := SJ.out.c _ (by omega)
                        have e1 : wr.cell? ⟨g, a, none⟩ = some (.int .u64 dk[a]!) := SJ.out.c _ (by omega)
                        obtain ⟨x, hx⟩ : ∃ x, dk[q + 1]! = x := ⟨_, rfl⟩
                        rw [hx] at e0
                        have HX := Lib.hid hx
                        rw [HPV.out] at e1
                        clear hx
                        cases hl : ltI x z
                        · go_wp2_with fail
                          go_big_quiet (first | (go_at_call 94; refine Calls.quiet_of_same (less_any _ _ _)))
                          go_wp2_with fail
                          go_roundg q
                          case measure => omega
                          case rel => exact ⟨q, by go_num, by omega, by omega, Nat.le_refl _, Lib.hid (SJ.out.drewN nq), Lib.hid (by rw [← HE.out, dn_go _ _ _ _ hle (by simp [HX.out, HPV.out, hl])])⟩
                        · go_wp2_with fail
                          go_big_quiet (first | (go_at_call 94; refine Calls.quiet_of_same (less_any _ _ _)))
                          go_wp2_with fail
                          go_meet
                          case rel => exact ⟨rfl, rfl, rfl, rfl, rfl, rfl, rfl, rfl, rfl, rfl, rfl, rfl, rfl, rfl, rfl, q + 1, by go_num, h1, h2, Lib.hid (SJ.out.drewN nq), Lib.hid (by rw [← HE.out, dn_end _ _ _ _ (Or.inr (by simp [HX.out, HPV.out, hl]))]), Lib.hid (fun _ => by simp [HX.out, HPV.out, hl])⟩
                      · have hltz : decide ((i2 : Int) ≤ (j2 : Int)) = false := decide_eq_false (by omega)
                        go_wp2_with fail
                        go_big_quiet (first | (go_at_call 94; refine Calls.quiet_of_same (less_any _ _ _)))
                        go_wp2_with fail
                        go_meet
                        case rel => exact ⟨rfl, rfl, rfl, rfl, rfl, rfl, rfl, rfl, rfl, rfl, rfl, rfl, rfl, rfl, rfl, j2, rfl, h1, h2, Lib.hid (SJ.out.drewN nq), Lib.hid (by rw [← HE.out, dn_end _ _ _ _ (Or.inl hle)]), Lib.hid (fun h => absurd h hle)⟩
                  case rest =>
                    clear SC
                    obtain ⟨rfl, rfl, rfl, rfl, rfl, rfl, rfl, rfl, rfl, rfl, rfl, rfl, rfl, rfl, rfl, j2, rfl, hjj, hij3, SC, HD, HDF⟩ := hcut
                    by_cases hbr : j2 < i2
                    · have hbz : (j2 : Int) < (i2 : Int) := by omega
                      have hrr : rr = (j2, dk) := by rw [← HR.out]; exact part_break a i j dk i2 j2 HU.out HD.out hbr
                      have hr2 : r = (j2, false, Sort.swp dk j2 a) := by rw [HRR.out, hrr]
                      subst hr2
                      have hiN : a < N := by omega
                      have hjN : j2 < N := by omega
                      have e0 : wc.cell? ⟨g, j2, none⟩ = some (.int .u64 dk[j2]!) := SC.out.c _ (by omega)
                      have e1 : wc.cell? ⟨g, a, none⟩ = some (.int .u64 dk[a]!) := SC.out.c _ (by omega)
                      have hfw : ∀ t, wc.frozen? ⟨g, t, none⟩ = false := SC.out.f
                      obtain ⟨x2, hx⟩ : ∃ x, dk[j2]! = x := ⟨_, rfl⟩
                      obtain ⟨y2, hy⟩ : ∃ y, dk[a]! = y := ⟨_, rfl⟩
                      rw [hx] at e0
                      rw [hy] at e1
                      have HX := Lib.hid hx
                      have HY := Lib.hid hy
                      clear hx hy
                      by_cases hja : j2 = a
                      · subst hja
                        obtain rfl : x2 = y2 := by rw [← HX.out, ← HY.out]
                        go_wp2_with fail
                        go_region
                        go_wp2_with fail
                        go_ret2
                        exact ⟨rfl, SC.out.swap j2 j2 x2 x2 HX.out.symm HX.out.symm⟩
                      · have hja' : a ≠ j2 := fun h => hja h.symm
                        go_wp2_with fail
                        go_region
                        go_wp2_with fail
                        go_ret2
                        exact ⟨rfl, SC.out.swap j2 a y2 x2 HY.out.symm HX.out.symm⟩
                    · have hbz : ¬ (j2 : Int) < (i2 : Int) := by omega
                      have hiN : i2 < N := by omega
                      have hjN : j2 < N := by omega
                      obtain ⟨q', rfl⟩ : ∃ q, j2 = q + 1 := ⟨j2 - 1, by omega⟩
                      have qq : (q' : Int) + 1 - 1 = (q' : Int) := by omega
                      have heq : i2 ≠ q' + 1 := by
                        intro he
                        have h1 := HUF.out (by omega)
                        have h2 := HDF.out (by omega)
                        simp only [he] at h1 h2
                        rw [h1] at h2
                        cases h2
                      have e0 : wc.cell? ⟨g, i2, none⟩ = some (.int .u64 dk[i2]!) := SC.out.c _ (by omega)
                      have e1 : wc.cell? ⟨g, (q' + 1), none⟩ = some (.int .u64 dk[(q' + 1)]!) := SC.out.c _ (by omega)
                      have hfw : ∀ t, wc.frozen? ⟨g, t, none⟩ = false := SC.out.f
                      obtain ⟨x2, hx⟩ : ∃ x, dk[i2]! = x := ⟨_, rfl⟩
                      obtain ⟨y2, hy⟩ : ∃ y, dk[(q' + 1)]! = y := ⟨_, rfl⟩
                      rw [hx] at e0
                      rw [hy] at e1
                      have HX := Lib.hid hx
                      have HY := Lib.hid hy
                      clear hx hy
                      have HG : Hid (Sort.partLoop ltI a (i2 + 1) q' (Sort.swp dk i2 (q' + 1)) = rr) := Lib.hid (by rw [← HR.out, part_go a i j dk i2 (q' + 1) HU.out HD.out hbr, Nat.add_sub_cancel])
                      go_wp2_with fail
                      go_region
                      go_wp2_with fail
                      go_roundg q'
                      case measure => omega
                      case rel => exact ⟨i2 + 1, q', Sort.swp dk i2 (q' + 1), by go_num, by go_num, by omega, by omega, by omega, Nat.le_refl _, by rw [swp_sz]; exact hds, Lib.hid (SC.out.swap i2 (q' + 1) y2 x2 HY.out.symm HX.out.symm), Lib.hid (by rw [HG.out])⟩
end Go.Proofs.YtjefkhieihigiaaGreat
