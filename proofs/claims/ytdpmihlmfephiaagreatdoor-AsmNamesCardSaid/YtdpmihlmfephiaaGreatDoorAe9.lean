/- AsmNames: the law's walk. -/
import Derived.Test.YtdpmihlmfephiaaGreatDoorAe7
import Derived.Test.YtdpmihlmfephiaaGreatDoorAe8
namespace Go.Proofs.YtdpmihlmfephiaaGreatDoor
set_option linter.unusedVariables false
set_option linter.unusedSimpArgs false
open Go.Joins Go.ChangeShapes Go.WideShapes Go.ChangeAt Go.RowKit Go.Deep

theorem namC_len (k : Nat) : (namC k).length = 4 * k + 4 := by unfold namC; rw [List.length_append, adds_len, le4_len]
theorem namC_drop (k : Nat) : (namC k).drop (4 * k) = le4 (encO (opBeq, ⟨0, 1, 2, -(4 * (k : Int))⟩)) := by unfold namC; exact List.drop_left' (adds_len k)
theorem of_le4 (e : Nat) (h : e < 4294967296) : ofB ((le4 e).map UInt8.toNat) = e := by
  have := w4_le4 e h []
  unfold w4 at this
  rw [List.append_nil, List.take_of_length_le (by rw [le4_len]; omega)] at this
  exact this
def qT (k : Nat) : List UInt8 := [32, 32] ++ namT [113] k
theorem prog_q (k : Nat) (hk : k ≤ 100) : progX (qT k) = (namC k, 0, 0) := by
  have h : nameB [113] = true := by decide
  have h1 := prog_nam h k hk (by decide)
  have hl : linesF (qT k) = linesF (namT [113] k) := by
    rw [linesF_nam h]
    unfold linesF qT namT
    have e : [32, 32] ++ ([113] ++ [58] ++ [10] ++ ((List.replicate k (addL ++ [10])).flatten ++ (beqH ++ [113]))) = [32, 32, 113, 58] ++ [10] ++ ((List.replicate k (addL ++ [10])).flatten ++ (beqH ++ [113])) := by simp
    rw [e, split_at 10 [] [32, 32, 113, 58] _ (by decide), split_adds, split_one 10 [] (beqH ++ [113]) (by decide)]
    rw [List.map_cons, List.map_append, List.map_replicate, clean_add, List.map_cons, List.map_nil, clean_beq h]
    rw [show cleanF [32, 32, 113, 58] = [113] ++ [58] by decide +kernel]
  have hs : ∀ z : List UInt8, z.length ≤ 4000 → progX z = progF z := fun z hz => by unfold progX; rw [if_neg (by omega)]
  have e1 : ((List.replicate k (addL ++ [10])).flatten).length = 15 * k := by
    clear hk h1 hl
    induction k with
    | zero => rfl
    | succ k ih => rw [List.replicate_succ, List.flatten_cons, List.length_append, ih]; simp [addL]; omega
  have l1 : (namT [113] k).length ≤ 2000 := by unfold namT; simp only [List.length_append, e1, List.length_cons, List.length_nil]; have : beqH.length = 12 := rfl; omega
  rw [hs _ (by omega)] at h1
  rw [hs _ (by unfold qT; rw [List.length_append]; simp; omega)]
  unfold progF at h1 ⊢
  rw [hl]; exact h1
def addT (k : Nat) : List UInt8 := (List.replicate k (addL ++ [10])).flatten
theorem addT_len (k : Nat) : (addT k).length = 15 * k := by
  unfold addT
  induction k with
  | zero => rfl
  | succ k ih => rw [List.replicate_succ, List.flatten_cons, List.length_append, ih]; simp [addL]; omega
theorem addT_next (k : Nat) : addT (k + 1) = addT k ++ (addL ++ [10]) := by unfold addT; rw [List.replicate_succ', List.flatten_append]; simp
set_option maxRecDepth 100000 in
set_option maxHeartbeats 4000000 in
theorem AsmNames_walk (s : List UInt8) (many : Int) (w : World) (hn : NA w) (hs : s.length < 9223372036854775808) :
    Calls Tryz.prog 10 #[.string ⟨s.toArray⟩, .int .i64 many] w fun e w' => e = .returned (.bool true) ∧ Below w.heap.size w w' := by
  have HAW := Lib.hid (awake_any w hn)
  have HN := Lib.hid hn
  have HNA := Lib.hid (fun W => rname_any s W hs)
  have hsz : (⟨s.toArray⟩ : ByteArray).size = s.length := mk_size s
  by_cases hgo : nameB s = true ∧ s.length ≤ 50 ∧ 0 ≤ many ∧ many ≤ 100
  · obtain ⟨hb, hl, hm0, hm1⟩ := hgo
    obtain ⟨k, rfl⟩ := Int.eq_ofNat_of_zero_le hm0
    have hk : k ≤ 100 := by omega
    rw [hb] at HNA
    have hp1 := prog_nam hb k hk (by omega)
    have hp2 := prog_q k hk
    have hlt0 := addT_len k
    have HP1 := Lib.hid (fun W (hW : NA W) => program_any (namT s k) W hW (by unfold namT; simp only [List.length_append, List.length_cons, List.length_nil]; have e : ((List.replicate k (addL ++ [10])).flatten).length = 15 * k := hlt0; have : beqH.length = 12 := rfl; omega))
    have HP2 := Lib.hid (fun W (hW : NA W) => program_any (qT k) W hW (by unfold qT namT; simp only [List.length_append, List.length_cons, List.length_nil]; have e : ((List.replicate k (addL ++ [10])).flatten).length = 15 * k := hlt0; have : beqH.length = 12 := rfl; omega))
    rw [hp1] at HP1
    rw [hp2] at HP2
    unfold ProPost at HP1 HP2
    simp only [] at HP1 HP2
    have hcl := namC_len k
    have hcd := namC_drop k
    have hok := beq_ok k hk
    have hr : rightB (opBeq : Int) 0 1 2 (-(4 * (k : Int))) = true := hok
    have hen := fun W => rencode_any (opBeq : Int) 0 1 2 (-(4 * (k : Int))) W
    unfold encR encE instV at hen
    simp only [if_pos hr] at hen
    have hel := encO_lt (parF_text (opBeq : Int) ⟨0, 1, 2, -(4 * (k : Int))⟩ hok)
    have hee : encB (bareN (opBeq : Int)) (0 : Int).toNat (1 : Int).toNat (2 : Int).toNat (-(4 * (k : Int))) = encO ((opBeq : Int), ⟨0, 1, 2, -(4 * (k : Int))⟩) := rfl
    rw [hee] at hen
    obtain ⟨en, hen2⟩ : ∃ en, encO ((opBeq : Int), (⟨0, 1, 2, -(4 * (k : Int))⟩ : Ins)) = en := ⟨_, rfl⟩
    rw [hen2] at hen hcd hel
    have HFD := Lib.hid (fun W => rfind_any [98, 101, 113] _ (find_fn [98, 101, 113]) W)
    have hob : findF [98, 101, 113] = opBeq := rfl
    rw [hob] at HFD
    obtain ⟨code, hcode⟩ : ∃ code, namC k = code := ⟨_, rfl⟩
    rw [hcode] at HP1 HP2 hcl hcd
    obtain ⟨q, hq⟩ : ∃ q, 4 * k = q := ⟨_, rfl⟩
    rw [hq] at hcl hcd
    obtain ⟨m, hm⟩ : ∃ m, code.length = m := ⟨_, rfl⟩
    rw [hm] at HP1 HP2 hcl
    have HSA := Lib.hid (fun a b ca cb W (ha : Rd W a m (u8B code)) (hb : Rd W b m (u8B code)) => same_any a b m ca m cb (code.map UInt8.toNat) (code.map UInt8.toNat) W (u8B_s code ▸ ha) (u8B_s code ▸ hb) (by omega) (by omega))
    simp only [decide_true] at HSA
    have hof := of_le4 en hel
    have HOF := Lib.hid (fun a c W (hr : Rd W a m (u8B code)) (hc : m ≤ c) => rof_any (cutA a q c) 4 (c - q) ((le4 en).map UInt8.toNat) W (by
      have h1 := rdB_cut hr q (by omega) hc
      rw [hcd, show m - q = 4 by omega, u8B_s] at h1
      exact h1) (by
        intro b hb
        obtain ⟨z, -, rfl⟩ := List.mem_map.1 hb
        exact z.toNat_lt) (by decide))
    rw [hof] at HOF
    have K3 := Lib.hid (fun a c (hc : m ≤ c) W => show (Instr.slice 32 (.slice a m c) (some (.int .i64 (q : Int))) none none).run Tryz.prog W = .ok (.slice (cutA a q c) 4 (c - q)) W by
      have h1 := slice_cutB W a q m c (by omega) hc
      rw [show m - q = 4 by omega] at h1
      exact h1)
    have K4 := Lib.hid (fun a c (hc : m ≤ c) W => show (Instr.sliceAt 32 (.slice a m c) (some (.int .i64 (q : Int))) none none).run Tryz.prog W = .ok (.slice (cutA a q c) 4 (c - q)) W by
      have h1 := sliceAt_cutB W a q m c (by omega) hc
      rw [show m - q = 4 by omega] at h1
      exact h1)
    obtain ⟨z, hz⟩ : ∃ z, -(4 * (k : Int)) = z := ⟨_, rfl⟩
    rw [hz] at hen
    have HEN := Lib.hid hen
    have w1 : IntKind.i64.wrap (-4 * (k : Int)) = z := by rw [IntKind.wrap_i64]; omega
    have w2 : IntKind.i64.wrap (4 * (k : Int)) = (q : Int) := by rw [IntKind.wrap_i64]; omega
    have w3 : IntKind.i64.wrap ((q : Int) + 4) = (m : Int) := by rw [IntKind.wrap_i64]; omega
    have w5 : IntKind.u64.wrap (en : Int) = (en : Int) := wrap_nat en (by omega)
    have g1 : decide ((50 : Int) < (s.length : Int)) = false := decide_eq_false (by omega)
    have g2 : decide (50 < s.length) = false := decide_eq_false (by omega)
    have g3 : decide ((100 : Int) < (k : Int)) = false := decide_eq_false (by omega)
    have g4 : decide (100 < k) = false := decide_eq_false (by omega)
    have g5 : decide ((k : Int) < 0) = false := decide_eq_false (by omega)
    have hA0 := hlt0
    have ad1 := add_l s [58, 10] (s ++ [58, 10]) rfl (by omega) (by decide)
    have ad2 := add_l (s ++ [58, 10]) (addT k) (s ++ [58, 10] ++ addT k) rfl (by rw [List.length_append]; simp; omega) (by omega)
    have ad3 := add_l (s ++ [58, 10] ++ addT k) [98, 101, 113, 32, 99, 49, 44, 32, 99, 50, 44, 32] (s ++ [58, 10] ++ addT k ++ beqH) rfl (by simp only [List.length_append, List.length_cons, List.length_nil]; omega) (by decide)
    have ad4 := add_l (s ++ [58, 10] ++ addT k ++ beqH) s (namT s k) (by unfold namT addT; simp) (by have : beqH.length = 12 := rfl; simp only [List.length_append, List.length_cons, List.length_nil]; omega) (by omega)
    have bd1 := add_l [32, 32, 113, 58, 10] (addT k) ([32, 32, 113, 58, 10] ++ addT k) rfl (by decide) (by omega)
    have bd2 := add_l ([32, 32, 113, 58, 10] ++ addT k) [98, 101, 113, 32, 99, 49, 44, 32, 99, 50, 44, 32, 113] (qT k) (by unfold qT namT addT beqH; simp) (by rw [List.length_append]; simp; omega) (by decide)
    obtain ⟨t0, ht0⟩ : ∃ t, addT k = t := ⟨_, rfl⟩
    rw [ht0] at ad2 ad3 ad4 bd1 bd2
    obtain ⟨t1, ht1⟩ : ∃ t, s ++ [58, 10] = t := ⟨_, rfl⟩
    rw [ht1] at ad1 ad2 ad3 ad4
    obtain ⟨t2, ht2⟩ : ∃ t, t1 ++ t0 = t := ⟨_, rfl⟩
    rw [ht2] at ad2 ad3 ad4
    obtain ⟨t3, ht3⟩ : ∃ t, t2 ++ beqH = t := ⟨_, rfl⟩
    rw [ht3] at ad3 ad4
    obtain ⟨t4, ht4⟩ : ∃ t, namT s k = t := ⟨_, rfl⟩
    rw [ht4] at ad4 HP1
    obtain ⟨t5, ht5⟩ : ∃ t, [32, 32, 113, 58, 10] ++ t0 = t := ⟨_, rfl⟩
    rw [ht5] at bd1 bd2
    obtain ⟨t6, ht6⟩ : ∃ t, qT k = t := ⟨_, rfl⟩
    rw [ht6] at bd2 HP2
    have HT0 := Lib.hid ht0
    clear hn hs hb hl hm0 hm1 hp1 hp2 hlt0 hcl hcd hok hr hen hel hee hen2 hob hcode hq hm hof hz hA0 ht0 ht1 ht2 ht3 ht4 ht5 ht6
    go_enter Tryz.func10, Tryz.ntmps10
    go_wp2_with (first
      | (go_at_call 12; refine HAW.out.mono ?_; rintro e v1 ⟨rfl, hb⟩; have HB1 := Lib.hid hb; have HN1 := Lib.hid (HN.out.on hb); clear hb)
      | (go_at_call 22; refine (HNA.out _).mono ?_; rintro e v2 ⟨rfl, rfl⟩))
    go_loopw [7, 8] (fun x i wr => ∃ j : Nat, j ≤ k ∧ x = .string ⟨(addT j).toArray⟩ ∧ i = .int .i64 (j : Int) ∧ v1 = wr) (fun _ i _ => k - (intOf i).toNat)
    case atStart => exact ⟨0, Nat.zero_le _, rfl, rfl, rfl⟩
    case round =>
      obtain ⟨j, hj, rfl, rfl, rfl⟩ := hrel
      by_cases hlt : j < k
      · have h1 : decide ((j : Int) < (k : Int)) = true := decide_eq_true (by omega)
        have h2 : decide (j < k) = true := decide_eq_true hlt
        have hjl := addT_len j
        have hadd := add_l (addT j) [97, 100, 100, 32, 99, 49, 44, 32, 99, 50, 44, 32, 99, 51, 10] (addT (j + 1)) (addT_next j).symm (by omega) (by decide)
        obtain ⟨tj, htj⟩ : ∃ t, addT (j + 1) = t := ⟨_, rfl⟩
        rw [htj] at hadd
        have HTJ := Lib.hid htj
        clear htj hjl
        generalize addT j = tt at *
        go_wp2_with fail
        go_roundw
        case rel => exact ⟨j + 1, by omega, by rw [HTJ.out], by go_num, trivial⟩
        case measure => simp [intOf]; omega
      · obtain rfl : j = k := by omega
        have h1 : decide ((j : Int) < (j : Int)) = false := decide_eq_false (by omega)
        rw [HT0.out]
        clear HT0
        go_wp2_with (first
          | (go_at_call 17; refine (HP2.out _ HN3.out).mono ?_; rintro e v4 ⟨a4, c4, rfl, hr, -, hb⟩; have HB4 := Lib.hid (HB3.out.trans (hb.mono HB3.out.size)); have HR41 := Lib.hid (HR3.out.below hb); have HR42 := Lib.hid hr; clear hb hr)
          | (go_at_call 17; refine (HP1.out _ HN1.out).mono ?_; rintro e v3 ⟨a3, c3, rfl, hr, hc, hb⟩; have HB3 := Lib.hid (HB1.out.trans (hb.mono HB1.out.size)); have HN3 := Lib.hid (HN1.out.on hb); have HR3 := Lib.hid hr; have HC3 := Lib.hid hc; have k3 := K3.out a3 c3 hc; have k4 := K4.out a3 c3 hc; clear hb hr hc)
          | (go_at_call 23; refine (HFD.out _).mono ?_; rintro e v5 ⟨rfl, hb⟩; have HB5 := Lib.hid hb; clear hb)
          | (go_at_call 24; refine (HEN.out _).mono ?_; rintro e v6 ⟨rfl, hb⟩; have HB6 : Hid (Below v4.heap.size v4 v6) := Lib.hid (HB5.out.trans (hb.mono HB5.out.size)); have HR61 := Lib.hid (HR41.out.below HB6.out); have HR62 := Lib.hid (HR42.out.below HB6.out); clear hb)
          | (go_at_call 25; refine (HOF.out _ _ _ (HR61.out.drewN _) HC3.out).mono ?_; rintro e v8 ⟨rfl, rfl⟩)
          | (go_at_call 19; refine (HSA.out _ _ _ _ _ HR61.out HR62.out).mono ?_; rintro e v7 ⟨rfl, q7, rfl⟩))
        go_ret
        exact ⟨rfl, (HB4.out.trans (HB6.out.mono HB4.out.size)).trans ((below_dN _ _).mono (Nat.le_trans HB4.out.size HB6.out.size))⟩
  · cases hb : nameB s with
    | false =>
      rw [hb] at HNA
      clear hb
      clear hn hgo
      go_enter Tryz.func10, Tryz.ntmps10
      go_wp2_with (first
        | (go_at_call 12; refine HAW.out.mono ?_; rintro e v1 ⟨rfl, hb⟩; have HB1 := Lib.hid hb; clear hb)
        | (go_at_call 22; refine (HNA.out _).mono ?_; rintro e v2 ⟨rfl, rfl⟩))
      go_ret
      exact ⟨rfl, HB1.out⟩
    | true =>
      rw [hb] at HNA
      by_cases h1 : 50 < s.length
      · have g0 : (50 : Int) < (s.length : Int) := by omega
        have g1 : decide ((50 : Int) < (s.length : Int)) = true := decide_eq_true g0
        have g2 : decide (50 < s.length) = true := decide_eq_true h1
        clear hb
        clear hn hgo
        go_enter Tryz.func10, Tryz.ntmps10
        go_wp2_with (first
          | (go_at_call 12; refine HAW.out.mono ?_; rintro e v1 ⟨rfl, hb⟩; have HB1 := Lib.hid hb; clear hb)
          | (go_at_call 22; refine (HNA.out _).mono ?_; rintro e v2 ⟨rfl, rfl⟩))
        go_ret
        exact ⟨rfl, HB1.out⟩
      · have g0 : ¬ (50 : Int) < (s.length : Int) := by omega
        have g1 : decide ((50 : Int) < (s.length : Int)) = false := decide_eq_false g0
        have g2 : decide (50 < s.length) = false := decide_eq_false h1
        by_cases h2 : many < 0
        · have g3 : decide (many < 0) = true := decide_eq_true h2
          clear hb
          clear hn hgo
          go_enter Tryz.func10, Tryz.ntmps10
          go_wp2_with (first
            | (go_at_call 12; refine HAW.out.mono ?_; rintro e v1 ⟨rfl, hb⟩; have HB1 := Lib.hid hb; clear hb)
            | (go_at_call 22; refine (HNA.out _).mono ?_; rintro e v2 ⟨rfl, rfl⟩))
          go_ret
          exact ⟨rfl, HB1.out⟩
        · have g3 : decide (many < 0) = false := decide_eq_false h2
          have h3 : 100 < many := by
            rcases Int.lt_or_le 100 many with q | q
            · exact q
            · exact absurd ⟨hb, by omega, by omega, q⟩ hgo
          have g4 : decide (100 < many) = true := decide_eq_true h3
          clear hb
          clear hn hgo
          go_enter Tryz.func10, Tryz.ntmps10
          go_wp2_with (first
            | (go_at_call 12; refine HAW.out.mono ?_; rintro e v1 ⟨rfl, hb⟩; have HB1 := Lib.hid hb; clear hb)
            | (go_at_call 22; refine (HNA.out _).mono ?_; rintro e v2 ⟨rfl, rfl⟩))
          go_ret
          exact ⟨rfl, HB1.out⟩
end Go.Proofs.YtdpmihlmfephiaaGreatDoor
