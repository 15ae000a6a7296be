/- AsmBlank: the law's walk. -/
import Derived.Test.YtdpmihlmfephiaaGreatDoorAe5
namespace Go.Proofs.YtdpmihlmfephiaaGreatDoor
set_option linter.unusedVariables false
set_option linter.unusedSimpArgs false
open Go.Joins Go.ChangeShapes Go.WideShapes Go.ChangeAt Go.RowKit Go.Deep

theorem goN_line {all : List (Nat × List UInt8)} : ∀ (l : List (Nat × List UInt8)) (code c : List UInt8) (n : Nat) (e : Int), goN all l code = (c, n, e) → e ≠ 0 → ∃ x ∈ l, n = x.1
  | [], code, c, n, e, h, he => by simp only [goN, Prod.mk.injEq] at h; exact absurd h.2.2.symm he
  | x :: r, code, c, n, e, h, he => by
    cases hl : labelF x.2 with
    | some o =>
      rw [goN_lab _ _ hl] at h
      split at h
      · obtain ⟨y, hy, hn⟩ := goN_line r code c n e h he
        exact ⟨y, by simp [hy], hn⟩
      · cases h; exact ⟨x, by simp, rfl⟩
    | none =>
      rw [goN_ins _ _ hl] at h
      cases ha : asmN all x.2 code.length with
      | inl e0 => rw [ha] at h; cases h; exact ⟨x, by simp, rfl⟩
      | inr w =>
        rw [ha] at h
        obtain ⟨y, hy, hn⟩ := goN_line r _ c n e h he
        exact ⟨y, by simp [hy], hn⟩
theorem numbF_line : ∀ (L : List (List UInt8)) (i : Nat) (x : Nat × List UInt8), x ∈ numbF i L → x.1 < i + L.length
  | [], i, x, h => by simp [numbF] at h
  | s :: r, i, x, h => by
    unfold numbF at h
    rw [List.length_cons]
    split at h
    · have := numbF_line r (i + 1) x h; omega
    · rcases List.mem_cons.1 h with rfl | h
      · simp only []; omega
      · have := numbF_line r (i + 1) x h; omega
theorem prog_line {s : List UInt8} {c : List UInt8} {n : Nat} {e : Int} (h : progX s = (c, n, e)) (he : e ≠ 0) : n ≤ s.length + 3 := by
  unfold progX at h
  split at h
  · cases h; omega
  · obtain ⟨x, hx, rfl⟩ := goN_line _ _ _ _ _ h he
    have h1 := numbF_line _ _ _ hx
    have h2 := split_len s [10]
    unfold linesF at h1
    rw [List.length_map] at h1
    omega
set_option maxRecDepth 100000 in
set_option maxHeartbeats 4000000 in
theorem AsmBlank_walk (s : List UInt8) (w : World) (hn : NA w) :
    Calls Tryz.prog 9 #[.string ⟨s.toArray⟩] w fun e w' => e = .returned (.bool true) ∧ Below w.heap.size w w' := by
  have HAW := Lib.hid (awake_any w hn)
  have HN := Lib.hid hn
  have hsz : (⟨s.toArray⟩ : ByteArray).size = s.length := mk_size s
  by_cases hl : 800 < s.length
  · obtain ⟨n, hnl⟩ : ∃ n, s.length = n := ⟨_, rfl⟩
    rw [hnl] at hl hsz
    have hli : (800 : Int) < (n : Int) := by omega
    have hd : decide ((800 : Int) < (n : Int)) = true := decide_eq_true hli
    have hd2 : decide (800 < n) = true := decide_eq_true hl
    clear hn hnl
    go_enter Tryz.func9, Tryz.ntmps9
    go_wp2_with (go_at_call 12; refine HAW.out.mono ?_; rintro e w1 ⟨rfl, hb⟩; have HB1 := Lib.hid hb; clear hb)
    go_ret
    exact ⟨rfl, HB1.out⟩
  have hli : ¬ (800 : Int) < (s.length : Int) := by omega
  have hd : decide ((800 : Int) < (s.length : Int)) = false := decide_eq_false hli
  have hd2 : decide (800 < s.length) = false := decide_eq_false hl
  have HL := Lib.hid (show s.length ≤ 800 by omega)
  clear hn
  go_enter Tryz.func9, Tryz.ntmps9
  go_wp2_with (go_at_call 12; refine HAW.out.mono ?_; rintro e w1 ⟨rfl, hb⟩; have HB1 := Lib.hid hb; have HN1 := Lib.hid (HN.out.on hb); clear hb)
  go_loopw [4, 5] (fun x i wr => ∃ (k : Nat) (acc : List UInt8), k ≤ s.length ∧ x = .string ⟨acc.toArray⟩ ∧ i = .int .i64 (k : Int) ∧ Hid (acc = [10, 32, 32] ++ (s.take k).flatMap blankB) ∧ w1 = wr) (fun _ i _ => s.length - (intOf i).toNat)
  case atStart => exact ⟨0, [10, 32, 32], Nat.zero_le _, rfl, rfl, Lib.hid (by simp), rfl⟩
  case round =>
    obtain ⟨k, acc, hk9, rfl, rfl, HAC, rfl⟩ := hrel
    have hal : acc.length ≤ 10000 := by
      rw [HAC.out, List.length_append]
      have h1 := blank_len (s.take k)
      have h2 : (s.take k).length ≤ s.length := by rw [List.length_take]; omega
      have h3 := HL.out
      have h4 : ([10, 32, 32] : List UInt8).length = 3 := rfl
      omega
    by_cases hlt : k < s.length
    · have hlti : (k : Int) < (s.length : Int) := by omega
      have hkd : decide ((k : Int) < (s.length : Int)) = true := decide_eq_true hlti
      have hkd2 : decide (k < s.length) = true := decide_eq_true hlt
      have hsn := blank_snoc s k hlt
      have hwk : IntKind.i64.wrap ((k : Int) + 1) = (k : Int) + 1 := by rw [IntKind.wrap_i64]; have := HL.out; omega
      by_cases hq : s[k] = 10
      · have hce : ((ByteArray.mk s.toArray)[k]'hlt).toNat = 10 := by show s[k].toNat = 10; rw [hq]; rfl
        have hadd := add_l acc [32, 32, 59, 32, 97, 100, 100, 10, 32, 32] (acc ++ remB) rfl (by omega) (by decide)
        have HNX : Hid (acc ++ remB = [10, 32, 32] ++ (s.take (k + 1)).flatMap blankB) := Lib.hid (by rw [hsn, hq, ← List.append_assoc, ← HAC.out]; rfl)
        obtain ⟨al, hal2⟩ : ∃ al, acc ++ remB = al := ⟨_, rfl⟩
        rw [hal2] at hadd HNX
        have HH := Lib.hid HL.out
        clear hsn hq hal2 hal
        go_wp2_with fail
        go_roundw
        case rel => exact ⟨k + 1, al, by omega, rfl, by (have := HH.out; go_num), HNX, trivial⟩
        case measure => (have := HH.out; simp [intOf]; omega)
      · obtain ⟨cb, hcb⟩ : ∃ cb, s[k] = cb := ⟨_, rfl⟩
        rw [hcb] at hq hsn
        have hex : (⟨s.toArray⟩ : ByteArray).extract k (k + 1) = ⟨#[cb]⟩ := by
          rw [Lib.extract_mk, Nat.add_sub_cancel_left, List.drop_eq_getElem_cons hlt, hcb]; rfl
        have hsl : ∀ W, (Instr.slice 9 (.string ⟨s.toArray⟩) (some (.int .i64 (k : Int))) (some (.int .i64 ((k : Int) + 1))) none).run Tryz.prog W = .ok (.string ⟨#[cb]⟩) W := fun W => by
          have h1 := run_slice_string (P := Tryz.prog) (w := W) 9 ⟨s.toArray⟩ .i64 .i64 (k : Int) ((k : Int) + 1) Tryz.underlying9 (by omega) (by omega) (by rw [hsz]; omega)
          rw [h1, Int.toNat_natCast, show ((k : Int) + 1).toNat = k + 1 by omega, hex]
        obtain ⟨c, hcc⟩ : ∃ c, cb.toNat = c := ⟨_, rfl⟩
        have hce : ((ByteArray.mk s.toArray)[k]'hlt).toNat = c := by show s[k].toNat = c; rw [hcb]; exact hcc
        have hne : ¬ c = 10 := fun e => hq (by apply UInt8.toNat_inj.1; rw [hcc, e]; rfl)
        have hneI : ¬ (c : Int) = 10 := by omega
        have d1 : ((c : Int) == 10) = false := by simpa using hneI
        have d2 : (c == 10) = false := by simpa using hne
        have hadd := add_l acc [cb] (acc ++ [cb]) rfl (by omega) (by simp)
        have HNX : Hid (acc ++ [cb] = [10, 32, 32] ++ (s.take (k + 1)).flatMap blankB) := Lib.hid (by rw [hsn, ← List.append_assoc, ← HAC.out]; unfold blankB; rw [if_neg hq])
        obtain ⟨al, hal2⟩ : ∃ al, acc ++ [cb] = al := ⟨_, rfl⟩
        rw [hal2] at hadd HNX
        have HH := Lib.hid HL.out
        have hbound : s.length ≤ 800 := HL.out
        clear hsn hq hal2 hal hcc hcb
        go_wp2_with fail
        go_roundw
        case rel => exact ⟨k + 1, al, by omega, rfl, by go_num, HNX, trivial⟩
        case measure => simp [intOf]; omega
    · have hlti : ¬ (k : Int) < (s.length : Int) := by omega
      have hkd : decide ((k : Int) < (s.length : Int)) = false := decide_eq_false hlti
      have hkd2 : decide (k < s.length) = false := decide_eq_false hlt
      have hbt : acc = blankT s := by rw [HAC.out, List.take_of_length_le (by omega)]; rfl
      have hls := HL.out
      have HP1 := Lib.hid (fun W (hW : NA W) => program_any s W hW (by omega))
      have HP2 := Lib.hid (fun W (hW : NA W) => program_any acc W hW (by omega))
      rw [hbt] at hal
      by_cases hbig : 4000 < (blankT s).length
      · have hp2 : progX acc = ([], 0, 2) := by rw [hbt]; unfold progX; rw [if_pos hbig]
        rw [hp2] at HP2
        obtain ⟨⟨c, n0, e0⟩, hp1⟩ : ∃ p, progX s = p := ⟨_, rfl⟩
        rw [hp1] at HP1
        unfold ProPost at HP1 HP2
        simp only [] at HP1 HP2
        obtain ⟨x, hx⟩ : ∃ x, c.length = x := ⟨_, rfl⟩
        rw [hx] at HP1
        clear hp1 hp2 hbt hal hbig HAC hx
        go_wp2_with (first
          | (go_at_call 17; refine (HP2.out _ HN2.out).mono ?_; rintro e w3 ⟨a3, c3, rfl, -, -, hb⟩; have HB3 := Lib.hid (HB2.out.trans (hb.mono HB2.out.size)); clear hb)
          | (go_at_call 17; refine (HP1.out _ HN1.out).mono ?_; rintro e w2 ⟨a2, c2, rfl, -, -, hb⟩; have HB2 := Lib.hid (HB1.out.trans (hb.mono HB1.out.size)); have HN2 := Lib.hid (HN1.out.on hb); clear hb))
        go_ret
        exact ⟨rfl, HB3.out⟩
      · have hpb := prog_blank s hls (by omega)
        rw [← hbt] at hpb
        rcases hpb with ⟨c, hp1, hp2⟩ | ⟨n0, e0, hp1, hp2, he0, he2⟩
        · rw [hp1] at HP1
          rw [hp2] at HP2
          unfold ProPost at HP1 HP2
          simp only [] at HP1 HP2
          have hc4 : c.length ≤ 8000 := by
            rcases prog_cases s with ⟨n0, e0, hp, he⟩ | ⟨ys, -, hyl, hp⟩
            · rw [hp1] at hp; cases hp; exact absurd rfl he
            · rw [hp1] at hp; cases hp; rw [codeY_len]; omega
          obtain ⟨x, hx⟩ : ∃ x, c.length = x := ⟨_, rfl⟩
          rw [hx] at HP1 HP2 hc4
          have HSA := Lib.hid (fun a b ca cb W (ha : Rd W a x (u8B c)) (hb : Rd W b x (u8B c)) => same_any a b x ca x cb (c.map UInt8.toNat) (c.map UInt8.toNat) W (u8B_s c ▸ ha) (u8B_s c ▸ hb) (by omega) (by omega))
          simp only [decide_true] at HSA
          clear hp1 hp2 hbt hal hbig HAC hx
          go_wp2_with (first
            | (go_at_call 17; refine (HP2.out _ HN2.out).mono ?_; rintro e w3 ⟨a3, c3, rfl, hr, -, hb⟩; have HB3 := Lib.hid (HB2.out.trans (hb.mono HB2.out.size)); have HR31 := Lib.hid (HR2.out.below hb); have HR32 := Lib.hid hr; clear hb hr)
            | (go_at_call 17; refine (HP1.out _ HN1.out).mono ?_; rintro e w2 ⟨a2, c2, rfl, hr, -, hb⟩; have HB2 := Lib.hid (HB1.out.trans (hb.mono HB1.out.size)); have HN2 := Lib.hid (HN1.out.on hb); have HR2 := Lib.hid hr; clear hb hr)
            | (go_at_call 19; refine (HSA.out _ _ _ _ _ HR31.out HR32.out).mono ?_; rintro e w7 ⟨rfl, q7, rfl⟩))
          go_ret
          exact ⟨rfl, HB3.out.trans ((below_dN _ _).mono HB3.out.size)⟩
        · have hln := prog_line hp1 he0
          rw [hp1] at HP1
          rw [hp2] at HP2
          unfold ProPost at HP1 HP2
          simp only [] at HP1 HP2
          have hwn : IntKind.i64.wrap ((n0 : Int) + 1) = (n0 : Int) + 1 := by rw [IntKind.wrap_i64]; omega
          have hcast : ((n0 + 1 : Nat) : Int) = (n0 : Int) + 1 := by omega
          rw [hcast] at HP2
          have d1 : (e0 == 0) = false := by simpa using he0
          have d2 : (e0 != 0) = true := by simpa using he0
          have d3 : (e0 == 2) = false := by simpa using he2
          have d4 : (e0 != 2) = true := by simpa using he2
          clear hp1 hp2 hbt hal hbig HAC hln hcast
          go_wp2_with (first
            | (go_at_call 17; refine (HP2.out _ HN2.out).mono ?_; rintro e w3 ⟨a3, c3, rfl, -, -, hb⟩; have HB3 := Lib.hid (HB2.out.trans (hb.mono HB2.out.size)); clear hb)
            | (go_at_call 17; refine (HP1.out _ HN1.out).mono ?_; rintro e w2 ⟨a2, c2, rfl, -, -, hb⟩; have HB2 := Lib.hid (HB1.out.trans (hb.mono HB1.out.size)); have HN2 := Lib.hid (HN1.out.on hb); clear hb))
          go_ret
          exact ⟨rfl, HB3.out⟩
end Go.Proofs.YtdpmihlmfephiaaGreatDoor
