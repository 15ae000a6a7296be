/- AsmPrograms: the law's walk. -/
import Derived.Test.YtdpmihlmfephiaaGreatDoorAf8
namespace Go.Proofs.YtdpmihlmfephiaaGreatDoor
set_option linter.unusedVariables false
set_option linter.unusedSimpArgs false
open Go.Joins Go.ChangeShapes Go.WideShapes Go.ChangeAt Go.RowKit Go.Deep

theorem goN_short {all : List (Nat × List UInt8)} : ∀ (l : List (Nat × List UInt8)) (code : List UInt8), (goN all l code).1.length ≤ code.length + 4 * l.length
  | [], code => by simp [goN]
  | x :: r, code => by
    unfold goN
    rw [List.length_cons]
    repeat' split
    · have := goN_short (all := all) r code; omega
    · simp
    · simp
    · rename_i v _
      have := goN_short (all := all) r (code ++ le4 v)
      rw [List.length_append] at this
      have h4 : (le4 v).length = 4 := rfl
      omega
theorem numbF_short : ∀ (l : List (List UInt8)) (i : Nat), (numbF i l).length ≤ l.length
  | [], i => Nat.le_refl _
  | x :: r, i => by
    unfold numbF
    have := numbF_short r (i + 1)
    split <;> simp <;> omega
theorem prog_short_len (s : List UInt8) : (progX s).1.length ≤ 4 * s.length + 8 := by
  unfold progX
  split
  · simp
  · have h1 := goN_short (all := numbF 1 (linesF s)) (numbF 1 (linesF s)) []
    have h2 := numbF_short (linesF s) 1
    have h3 : (linesF s).length = (Lib.split s [10]).length := by unfold linesF; rw [List.length_map]
    have h4 := split_len s [10]
    unfold progF
    simp only [List.length_nil] at h1
    omega
set_option maxHeartbeats 2000000 in
theorem AsmPrograms_walk (s : List UInt8) (w : World) (hn : NA w) (hs : s.length < 9223372036854775808) :
    Calls Tryz.prog 5 #[.string ⟨s.toArray⟩] w fun e w' => e = .returned (.bool true) ∧ Below w.heap.size w w' := by
  have HAW := Lib.hid (awake_any w hn)
  have HN := Lib.hid hn
  have hsz : (⟨s.toArray⟩ : ByteArray).size = s.length := mk_size s
  by_cases hl : 1500 < s.length
  · obtain ⟨n, hnl⟩ : ∃ n, s.length = n := ⟨_, rfl⟩
    rw [hnl] at hl hsz
    have hli : (1500 : Int) < (n : Int) := by omega
    have hd : decide ((1500 : Int) < (n : Int)) = true := decide_eq_true hli
    have hd2 : decide (1500 < n) = true := decide_eq_true hl
    clear hn hnl hs
    go_enter Tryz.func5, Tryz.ntmps5
    go_wp2_with (go_at_call 12; refine HAW.out.mono ?_; rintro e w1 ⟨rfl, hb⟩; have HB1 := Lib.hid hb; clear hb)
    go_ret
    exact ⟨rfl, HB1.out⟩
  · have HP := Lib.hid (fun W (hW : NA W) => program_any s W hW (by omega))
    have HRP := Lib.hid (fun W => rprog_any s W (by omega))
    have hcl := prog_short_len s
    unfold ProPost at HP HRP
    obtain ⟨⟨c, ln, er⟩, hp⟩ : ∃ p, progX s = p := ⟨_, rfl⟩
    rw [hp] at HP HRP hcl
    simp only [] at HP HRP hcl
    obtain ⟨x, hx⟩ : ∃ x, c.length = x := ⟨_, rfl⟩
    rw [hx] at HP HRP hcl
    have HSA := Lib.hid (fun a b ca cb W (ha : Rd W a x (u8B c)) (hb : Rd W b x (u8B c)) => same_any a b x ca x cb (c.map UInt8.toNat) (c.map UInt8.toNat) W (u8B_s c ▸ ha) (u8B_s c ▸ hb) (by omega) (by omega))
    simp only [decide_true] at HSA
    obtain ⟨n, hnl⟩ : ∃ n, s.length = n := ⟨_, rfl⟩
    rw [hnl] at hl hsz
    have hli : ¬ (1500 : Int) < (n : Int) := by omega
    have hd : decide ((1500 : Int) < (n : Int)) = false := decide_eq_false hli
    have hd2 : decide (1500 < n) = false := decide_eq_false hl
    clear hn hnl hs hp hx hcl
    go_enter Tryz.func5, Tryz.ntmps5
    go_wp2_with (first
      | (go_at_call 12; refine HAW.out.mono ?_; rintro e w1 ⟨rfl, hb⟩; have HB1 := Lib.hid hb; have HN1 := Lib.hid (HN.out.on hb); clear hb)
      | (go_at_call 17; refine (HP.out _ HN1.out).mono ?_; rintro e w2 ⟨a2, c2, rfl, hr, -, hb⟩; have HB2 := Lib.hid (HB1.out.trans (hb.mono HB1.out.size)); have HR2 := Lib.hid hr; clear hb hr)
      | (go_at_call 18; refine (HRP.out _).mono ?_; rintro e w3 ⟨a3, c3, rfl, hr, -, hb⟩; have HB3 := Lib.hid (HB2.out.trans (hb.mono HB2.out.size)); have HR32 := Lib.hid (HR2.out.below hb); have HR33 := Lib.hid hr; clear hb hr)
      | (go_at_call 19; refine (HSA.out _ _ _ _ _ HR32.out HR33.out).mono ?_; rintro e w4 ⟨rfl, q4, rfl⟩))
    go_ret
    exact ⟨rfl, HB3.out.trans ((below_dN w3 q4).mono HB3.out.size)⟩
end Go.Proofs.YtdpmihlmfephiaaGreatDoor
