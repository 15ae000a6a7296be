/- The laws' walks: HashFinds. -/
import Derived.Test.YtniefpdibmpngaaHasP
namespace Go.Proofs.Ytniefpdibmpngaa
set_option linter.unusedVariables false
set_option linter.unusedSimpArgs false
open Go.Joins Go.ChangeShapes Go.WideShapes Go.ChangeAt Go.RowKit

set_option maxHeartbeats 2000000 in
theorem HashFinds_walk (a : Option Addr) (l : List Sym) (c : Nat) (n : Int) (name ver : List UInt8) (w : World) (hl : RdS w a l) (hnm : ∀ s ∈ l, s.name.length < 9223372036854775808) (hm : l.length ≤ 9223372036854775807) (hname : name.length < 9223372036854775808) :
    Calls Try.prog 5 #[.slice a l.length c, .int .i64 n, .string ⟨name.toArray⟩, .string ⟨ver.toArray⟩] w fun e w' => e = .returned (.bool true) ∧ Below w.heap.size w w' := by
  by_cases hbad : n < 1 ∨ 64 < n ∨ 40 < l.length
  · have HNO := Lib.hid (fun w => make_no a l.length c n hbad w)
    have HBAD := Lib.hid hbad
    clear hl hnm
    generalize hlm : l.length = m at *
    clear hlm
    clear hbad
    go_enter Try.func5, Try.ntmps5
    go_wp2_with fail
    refine (awake_any _).mono ?_; rintro e w1 ⟨rfl, hb⟩
    have HB := Lib.hid hb
    clear hb
    go_wp2_with fail
    refine (HNO.out _).mono ?_; rintro e w2 ⟨rfl, hb2⟩
    have HB2 := Lib.hid (bTrans HB.out hb2)
    clear hb2
    go_wp2_with fail
    all_goals first
      | (exfalso; have := HBAD.out; omega)
      | (go_ret; exact ⟨rfl, bAlloc HB2.out _⟩)
  · obtain ⟨n, rfl⟩ := Int.eq_ofNat_of_zero_le (show 0 ≤ n by omega)
    have h1 : 1 ≤ n := by omega
    have h2 : n ≤ 64 := by omega
    have h3 : l.length ≤ 40 := by omega
    have d1 : decide ((n : Int) < 1) = false := decide_eq_false (by omega)
    have d2 : decide (64 < (n : Int)) = false := decide_eq_false (by omega)
    have d3 : decide (40 < (l.length : Int)) = false := decide_eq_false (by omega)
    have HMK := Lib.hid (fun W (hW : RdS W a l) => make_any a l c n h1 h2 h3 W hW hnm)
    have HF := Lib.hid (fun ab ac cb cc W (hW : RdS W a l) hb hc => find_any ab ac a l cb cc c n name ver W hW (by omega) h1 h2 hname hb hc)
    have HRF := Lib.hid (fun W (hW : RdS W a l) => rfind_any a l c name ver W hW (by omega))
    have hself : (findZ l name ver 0 == findZ l name ver 0) = true := beq_self_eq_true _
    have HL := Lib.hid hl
    obtain ⟨r, hr⟩ : ∃ r, findZ l name ver 0 = r := ⟨_, rfl⟩
    rw [hr] at HF HRF hself
    clear hl hnm hbad hr
    generalize hlm : l.length = m at *
    have HLM := Lib.hid hlm
    clear hlm
    go_enter Try.func5, Try.ntmps5
    go_wp2_with fail
    refine (awake_any _).mono ?_; rintro e w1 ⟨rfl, hb⟩
    have HB := Lib.hid hb
    clear hb
    go_wp2_with fail
    refine (HMK.out _ (HL.out.below HB.out)).mono ?_; rintro e w2 ⟨B, C, rfl, hB, hC, hBl, hCl, hb2⟩
    rw [HLM.out] at hC ⊢
    have HB2 := Lib.hid (bTrans HB.out hb2)
    have HBR := Lib.hid hB
    have HCR := Lib.hid hC
    clear hb2 hB hC hBl hCl
    go_wp2_with fail
    refine (HF.out _ _ _ _ _ (HL.out.below (bAlloc HB2.out _)) (HBR.out.alloc _) (HCR.out.alloc _)).mono ?_; rintro e w3 ⟨rfl, hb3⟩
    have HB3 := Lib.hid (bTrans (bAlloc HB2.out _) hb3)
    clear hb3
    go_wp2_with fail
    refine (find_none _ _ _ _ _ _ _).mono ?_; rintro e w4 ⟨rfl, hb4⟩
    have HB4 := Lib.hid (bTrans HB3.out hb4)
    clear hb4
    go_wp2_with fail
    refine (HRF.out _ (HL.out.below HB4.out)).mono ?_; rintro e w5 ⟨rfl, hb5⟩
    have HB5 := Lib.hid (bTrans HB4.out hb5)
    clear hb5
    go_wp2_with fail
    go_ret
    exact ⟨ret_bool (by simp), HB5.out⟩
end Go.Proofs.Ytniefpdibmpngaa
