/- AsmAgain: the law's walk. -/
import Derived.Test.YtdpmihlmfephiaaGreatDoorAe1
namespace Go.Proofs.YtdpmihlmfephiaaGreatDoor
set_option linter.unusedVariables false
set_option linter.unusedSimpArgs false
open Go.Joins Go.ChangeShapes Go.WideShapes Go.ChangeAt Go.RowKit Go.Deep

theorem goN_cases {all : List (Nat × List UInt8)} : ∀ (l : List (Nat × List UInt8)) (code : List UInt8), (∃ c, goN all l code = (c, 0, 0)) ∨ ∃ n e, goN all l code = ([], n, e) ∧ e ≠ 0
  | [], code => .inl ⟨code, rfl⟩
  | x :: l, code => by
    cases hl : labelF x.2 with
    | some o =>
      rw [goN_lab _ _ hl]
      split
      · exact goN_cases l code
      · exact .inr ⟨_, _, rfl, by decide⟩
    | none =>
      rw [goN_ins _ _ hl]
      cases ha : asmN all x.2 code.length with
      | inl e => exact .inr ⟨_, _, rfl, by rcases asm_err ha with q | q <;> omega⟩
      | inr w => exact goN_cases l _
theorem numbF_len : ∀ (l : List (List UInt8)) (i : Nat), (numbF i l).length ≤ l.length
  | [], i => Nat.le_refl _
  | s :: r, i => by
    unfold numbF
    have := numbF_len r (i + 1)
    split
    · rw [List.length_cons]; omega
    · rw [List.length_cons, List.length_cons]; omega
theorem prog_cases (s : List UInt8) : (∃ n e, progX s = ([], n, e) ∧ e ≠ 0) ∨ ∃ ys : List (Int × Ins), (∀ y ∈ ys, okI y.1 y.2 = true) ∧ ys.length ≤ s.length + 2 ∧ progX s = (codeY ys, 0, 0) := by
  unfold progX
  by_cases h : 4000 < s.length
  · rw [if_pos h]; exact .inl ⟨0, 2, rfl, by decide⟩
  · rw [if_neg h]
    unfold progF
    rcases goN_cases (all := numbF 1 (linesF s)) (numbF 1 (linesF s)) [] with ⟨c, hc⟩ | ⟨n, e, hc, he⟩
    · obtain ⟨ys, h1, h2, h3⟩ := goN_code _ _ _ hc
      refine .inr ⟨ys, h1, ?_, by rw [hc, h3]; rfl⟩
      have h4 := numbF_len (linesF s) 1
      have h5 := split_len s [10]
      unfold linesF at h2 h4
      rw [List.length_map] at h4
      omega
    · exact .inl ⟨n, e, hc, he⟩
set_option maxHeartbeats 2000000 in
theorem AsmAgain_walk (s : List UInt8) (w : World) (hn : NA w) :
    Calls Tryz.prog 8 #[.string ⟨s.toArray⟩] w fun e w' => e = .returned (.bool true) ∧ Below w.heap.size w w' := by
  have HAW := Lib.hid (awake_any w hn)
  have HN := Lib.hid hn
  have hsz : (⟨s.toArray⟩ : ByteArray).size = s.length := mk_size s
  by_cases hl : 1000 < s.length
  · obtain ⟨n, hnl⟩ : ∃ n, s.length = n := ⟨_, rfl⟩
    rw [hnl] at hl hsz
    have hli : (1000 : Int) < (n : Int) := by omega
    have hd : decide ((1000 : Int) < (n : Int)) = true := decide_eq_true hli
    have hd2 : decide (1000 < n) = true := decide_eq_true hl
    clear hn hnl
    go_enter Tryz.func8, Tryz.ntmps8
    go_wp2_with (go_at_call 12; refine HAW.out.mono ?_; rintro e w1 ⟨rfl, hb⟩; have HB1 := Lib.hid hb; clear hb)
    go_ret
    exact ⟨rfl, HB1.out⟩
  · have HP1 := Lib.hid (fun W (hW : NA W) => program_any s W hW (by omega))
    rcases prog_cases s with ⟨n0, e0, hp, he⟩ | ⟨ys, hys, hyl, hp⟩
    · rw [hp] at HP1
      unfold ProPost at HP1
      have d1 : (e0 == 0) = false := by simpa using he
      have d2 : (e0 != 0) = true := by simpa using he
      obtain ⟨n, hnl⟩ : ∃ n, s.length = n := ⟨_, rfl⟩
      rw [hnl] at hl hsz
      have hli : ¬ (1000 : Int) < (n : Int) := by omega
      have hd : decide ((1000 : Int) < (n : Int)) = false := decide_eq_false hli
      have hd2 : decide (1000 < n) = false := decide_eq_false hl
      clear hn hnl hp
      go_enter Tryz.func8, Tryz.ntmps8
      go_wp2_with (first
        | (go_at_call 12; refine HAW.out.mono ?_; rintro e w1 ⟨rfl, hb⟩; have HB1 := Lib.hid hb; have HN1 := Lib.hid (HN.out.on hb); clear hb)
        | (go_at_call 17; refine (HP1.out _ HN1.out).mono ?_; rintro e w2 ⟨a, c, rfl, -, -, hb⟩; have HB2 := Lib.hid (HB1.out.trans (hb.mono HB1.out.size)); clear hb))
      go_ret
      exact ⟨rfl, HB2.out⟩
    · have hcl := codeY_len ys
      have hlx := listX_code ys hys
      rw [hp] at HP1
      unfold ProPost at HP1
      simp only [] at HP1
      obtain ⟨code, hcode⟩ : ∃ code, codeY ys = code := ⟨_, rfl⟩
      rw [hcode] at HP1 hcl hlx
      have HLI := Lib.hid (fun a c W (hW : NA W) (hr : Rd W a code.length (u8B code)) (hc : code.length ≤ c) => list_any a code c W hW hr hc (by omega))
      rw [hlx] at HLI
      unfold ListPost at HLI
      simp only [] at HLI
      have hpt := prog_text ys hys
      rw [hcode] at hpt
      obtain ⟨t, ht⟩ : ∃ t, textY ys = t := ⟨_, rfl⟩
      rw [ht] at HLI hpt
      have htz : (⟨t.toArray⟩ : ByteArray).size = t.length := mk_size t
      obtain ⟨m, hm⟩ : ∃ m, code.length = m := ⟨_, rfl⟩
      rw [hm] at HP1 HLI hcl
      have hm9 : m ≤ 9223372036854775807 := by omega
      have HSA := Lib.hid (fun a b c d W (ha : Rd W a m (u8B code)) (hb : Rd W b m (u8B code)) => same_any a b m c m d (code.map UInt8.toNat) (code.map UInt8.toNat) W (u8B_s code ▸ ha) (u8B_s code ▸ hb) hm9 hm9)
      simp only [decide_true] at HSA
      obtain ⟨n, hnl⟩ : ∃ n, s.length = n := ⟨_, rfl⟩
      rw [hnl] at hl hsz
      have hli : ¬ (1000 : Int) < (n : Int) := by omega
      have hd : decide ((1000 : Int) < (n : Int)) = false := decide_eq_false hli
      have hd2 : decide (1000 < n) = false := decide_eq_false hl
      by_cases htl : 4000 < t.length
      · obtain ⟨k, hk⟩ : ∃ k, t.length = k := ⟨_, rfl⟩
        rw [hk] at htl htz
        have hti : (4000 : Int) < (k : Int) := by omega
        have td : decide ((4000 : Int) < (k : Int)) = true := decide_eq_true hti
        have td2 : decide (4000 < k) = true := decide_eq_true htl
        clear hn hnl hp hpt ht hcl hlx hcode hys hyl hk hm
        go_enter Tryz.func8, Tryz.ntmps8
        go_wp2_with (first
          | (go_at_call 12; refine HAW.out.mono ?_; rintro e w1 ⟨rfl, hb⟩; have HB1 := Lib.hid hb; have HN1 := Lib.hid (HN.out.on hb); clear hb)
          | (go_at_call 17; refine (HP1.out _ HN1.out).mono ?_; rintro e w2 ⟨a, c, rfl, hr, hc, hb⟩; have HB2 := Lib.hid (HB1.out.trans (hb.mono HB1.out.size)); have HN2 := Lib.hid (HN1.out.on hb); have HR2 := Lib.hid hr; have HC2 := Lib.hid hc; clear hb hr hc)
          | (go_at_call 20; refine (HLI.out _ _ _ HN2.out HR2.out HC2.out).mono ?_; rintro e w3 ⟨rfl, hb⟩; have HB3 := Lib.hid (HB2.out.trans (hb.mono HB2.out.size)); clear hb))
        go_ret
        exact ⟨rfl, HB3.out⟩
      · have HP2 := Lib.hid (fun W (hW : NA W) => program_any t W hW (by omega))
        rw [hpt (by omega)] at HP2
        unfold ProPost at HP2
        simp only [hm] at HP2
        obtain ⟨k, hk⟩ : ∃ k, t.length = k := ⟨_, rfl⟩
        rw [hk] at htl htz
        have hti : ¬ (4000 : Int) < (k : Int) := by omega
        have td : decide ((4000 : Int) < (k : Int)) = false := decide_eq_false hti
        have td2 : decide (4000 < k) = false := decide_eq_false htl
        clear hn hnl hp hpt ht hcl hlx hcode hys hyl hk hm
        go_enter Tryz.func8, Tryz.ntmps8
        go_wp2_with (first
          | (go_at_call 12; refine HAW.out.mono ?_; rintro e w1 ⟨rfl, hb⟩; have HB1 := Lib.hid hb; have HN1 := Lib.hid (HN.out.on hb); clear hb)
          | (go_at_call 17; refine (HP2.out _ HN3.out).mono ?_; rintro e w4 ⟨a4, c4, rfl, hr, hc, hb⟩; have HB4 := Lib.hid (HB3.out.trans (hb.mono HB3.out.size)); have HR4 := Lib.hid hr; have HR24 := Lib.hid (HR3.out.below hb); clear hb hr hc)
          | (go_at_call 17; refine (HP1.out _ HN1.out).mono ?_; rintro e w2 ⟨a, c, rfl, hr, hc, hb⟩; have HB2 := Lib.hid (HB1.out.trans (hb.mono HB1.out.size)); have HN2 := Lib.hid (HN1.out.on hb); have HR2 := Lib.hid hr; have HC2 := Lib.hid hc; clear hb hr hc)
          | (go_at_call 20; refine (HLI.out _ _ _ HN2.out HR2.out HC2.out).mono ?_; rintro e w3 ⟨rfl, hb⟩; have HB3 := Lib.hid (HB2.out.trans (hb.mono HB2.out.size)); have HN3 := Lib.hid (HN2.out.on hb); have HR3 := Lib.hid (HR2.out.below hb); clear hb)
          | (go_at_call 19; refine (HSA.out _ _ _ _ _ HR24.out HR4.out).mono ?_; rintro e w5 ⟨rfl, q5, rfl⟩))
        go_ret
        exact ⟨rfl, HB4.out.trans ((below_dN _ _).mono HB4.out.size)⟩
end Go.Proofs.YtdpmihlmfephiaaGreatDoor
