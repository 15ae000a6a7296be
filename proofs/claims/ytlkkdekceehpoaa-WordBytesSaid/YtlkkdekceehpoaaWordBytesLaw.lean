/- WordBytes: at every word, number and bytes the law answers true and leaves its arguments as they were. No condition. -/
import Derived.Test.YtlkkdekceehpoaaRows
import Derived.Test.YtlkkdekceehpoaaWordF
import Derived.Test.YtlkkdekceehpoaaOpen
namespace Go.Proofs.Ytlkkdekceehpoaa.wordBytes
open Go.ChangeShapes Go.WideShapes Go.ChangeAt Go.RowKit
set_option linter.unusedVariables false

theorem own : ownKnob Try.prog.godebug = none := by kernel_rfl
theorem laidOut : laidOutB Try.prog = true := by kernel_rfl
theorem cells5 : Try.prog.cellsOf 5 = 1 := by kernel_rfl

theorem walk (x n : Int) (a : Option Addr) (m c : Nat) (l : List Nat) (w : World) (h0 : 0 ≤ x) (h1 : x < 18446744073709551616) (hr : Rd w a m (u8s l)) (hb : ∀ b ∈ l, b < 256) (hm : m ≤ maxLen) :
    Calls Try.prog 5 #[.int .u64 x, .int .i64 n, .slice a m c] w fun e w' => e = .returned (.bool true) ∧ Below w.heap.size w w' := by
  have H0 := Lib.hid h0
  have H1 := Lib.hid h1
  have HR := Lib.hid hr
  have HL := Lib.hid hb
  have HM := Lib.hid hm
  have hself : (((ofB l : Nat) : Int) == ((ofB l : Nat) : Int)) = true := beq_self_eq_true _
  clear h0 h1 hr hb hm
  go_enter Try.func5, Try.ntmps5
  go_wp2_with fail
  refine (awake_any _).mono ?_; rintro e w1 ⟨rfl, hb⟩; have HB := Lib.hid hb; clear hb
  go_wp2_with fail
  refine (little_any _ _ _ H0.out H1.out).mono ?_; rintro e w2 ⟨v, rfl, ho, hb2⟩
  obtain ⟨a1, c1, rfl, hlen⟩ := own_slice ho
  have HR1 := Lib.hid (Rd.of_own ho)
  have HB2 := Lib.hid (bTrans HB.out hb2)
  have HLEN := Lib.hid hlen
  clear ho hb2 hlen
  go_wp2_with fail
  refine (of_any _ _ _ _ _ (HR.out.below HB2.out) HL.out HM.out).mono ?_; rintro e w' ⟨rfl, rfl⟩
  go_wp2_with fail
  refine (rlittle_any _ _ _ H0.out H1.out).mono ?_; rintro e w3 ⟨v, rfl, ho, hb3⟩
  obtain ⟨a3, c3, rfl, _⟩ := own_slice ho
  have HR3 := Lib.hid (Rd.of_own ho)
  have HR2 := Lib.hid (HR1.out.below hb3)
  have HB3 := Lib.hid (bTrans HB2.out hb3)
  clear ho hb3
  go_wp2_with fail
  refine (same_any _ _ _ _ _ _ _ _ _ HR2.out HR3.out HLEN.out HLEN.out).mono ?_; rintro e w' ⟨rfl, n4, rfl⟩
  rw [show decide (littleZ x n = littleZ x n) = true from decide_eq_true rfl]
  go_wp2_with fail
  refine (rof_any _ _ _ _ _ ((HR.out.below HB3.out).drewN _) HL.out HM.out).mono ?_; rintro e w' ⟨rfl, rfl⟩
  go_wp2
  go_ret
  exact ⟨by simp, bDrewN HB3.out _⟩

set_option maxRecDepth 100000 in
theorem lifted (os : Os) (started : os.Started) (H : Type) (enc : TypeId × Value → H) :
    ReturnsInHanded {} Try.checked os 5 .any (Rows.wordBytesSpec.pre6 enc Try.prog Try.f5 Rows.wordBytesRow.domain false) (Rows.wordBytesSpec.post enc Try.prog Try.f5 false true false false) := by
  refine returnsInHanded_of_change (C := Try.checked) own started (by kernel_rfl) Try.func5
    (ChangeSpec.witness6 (enc := enc) (C := Try.checked) false ⟨#[], #[.int .u64 0, .int .i64 0, .slice none 0 0], []⟩ 8 (by kernel_rfl) (by kernel_rfl) (by kernel_rfl) (by kernel_rfl)) ?_
  intro W base args ds gs before hval0 hW hcnd _
  have hval : ∀ (j : Nat) t v, Try.f5.params[j]? = some t → args[j]? = some v → Value.okWide Try.prog W .any base t v := hval0
  have hW' := hW
  obtain ⟨p, q, hA0, hV, rfl, hfz, hnd⟩ := hW
  have hA : DataW.TrodAll enc Try.prog W 0 (fun _ => true) true Try.f5.params.toList args.toList ds p := hA0
  rw [Try.params5] at hA hval
  have hkeep := hA
  obtain ⟨v0, vs0, d0, ds0, p0, q0, hargs, rfl, rfl, h0, r0⟩ := trodAll_cons hA
  obtain ⟨v1, vs1, d1, ds1, p1, q1, rfl, rfl, rfl, h1, r1⟩ := trodAll_cons r0
  obtain ⟨v2, vs2, d2, ds2, p2, q2, rfl, rfl, rfl, h2, r2⟩ := trodAll_cons r1
  obtain ⟨rfl, rfl, rfl⟩ := trodAll_nil r2
  obtain rfl : args = #[v0, v1, v2] := by cases args; simp_all
  obtain ⟨rfl, rfl⟩ := trodVars_none hV
  obtain ⟨a0, rfl, rfl, rfl, w0⟩ := open_int Try.underlying22 (hval 0 22 v0 rfl rfl) h0
  obtain ⟨a1, rfl, rfl, rfl, w1⟩ := open_int Try.underlying3 (hval 1 3 v1 rfl rfl) h1
  obtain ⟨a2, len, cap, rfl⟩ := okWide_slice Try.underlying31 (hval 2 31 v2 rfl rfl)
  obtain ⟨l, hrd, hwf, hmax, _⟩ := open_row Try.underlying31 Try.underlying5 cells5 rfl h2
  obtain ⟨r, hlr, hr256⟩ := ints_u8s l hwf
  rw [hlr] at hrd
  clear hA0 hval0
  simp only [List.append_nil] at hW'
  have hlt : ∀ x ∈ ([] : List MemPlace) ++ ([] ++ (p2 ++ [])), x.block < W.heap.size := fun x hx => hW'.lt x (by simpa using hx)
  refine (walk a0 a1 a2 len cap r W (wf_u64 w0).1 (wf_u64 w0).2 hrd hr256 hmax).mono fun e W' ⟨he, hg⟩ => ?_
  subst he
  exact ⟨_, rfl, post_below (pa := [] ++ ([] ++ (p2 ++ []))) (pv := []) hW' (fun _ _ _ => (trodAll_cons_mk (shut_bool Try.underlying4 _) trodAll_mk0)) (fun sp hsp => trodAll_stays laidOut hg (by kernel_rfl) hkeep hlt (fun x hx => hsp x (by simpa using hx))) (fun _ _ => rfl) (by simp)
    hg (ok_one (by kernel_rfl) rfl (okWide_bool_mk Try.underlying4 _))⟩

theorem over : Rows.wordBytesRow.holds Try.pinned (OpenSpec.ofChange Rows.wordBytesSpec) :=
  OpenClaim.holds_of_wide 5 Try.f5 rfl rfl rfl rfl rfl rfl rfl ⟨rfl, rfl, rfl, rfl, rfl⟩ rfl rfl rfl rfl rfl (by kernel_rfl) Try.func5 (by kernel_rfl)
    (of_decide_eq_true (by kernel_rfl)) (by unfold Func.isWrapper; first | (rw [if_pos (by decide +kernel)]; kernel_rfl) | (rw [if_neg (by decide +kernel)]; exact ⟨rfl, rfl⟩))
    (fun os started H enc _ => lifted os started H enc)

theorem proved : Rows.WordBytesSaid :=
  over
#print axioms proved
end Go.Proofs.Ytlkkdekceehpoaa.wordBytes
