/- The program's memory: a capability is stored: contract. -/
import Derived.Test.YteaididdamihlaaTmO
namespace Go.Proofs.Yteaididdamihlaa
set_option linter.unusedVariables false
set_option linter.unusedSimpArgs false
open Go.Joins Go.ChangeShapes Go.WideShapes Go.ChangeAt Go.RowKit Go.Deep

/-- a word's eight bytes are copied into a page -/
theorem copy_little (W : World) (ty : TypeId) (q o dl dc vc base : Nat) (va : Option Addr) (b : Nat → Nat) (t : Nat → Bool) (w : Nat) (hq : BoxN W q (pgC b t).toArray) (hown : W.ownsRow base 5 1 (.slice va 8 vc) 8 (u8s (littleN w 8))) (hb : q < base) (ho : o + 8 ≤ 256) (hdl : 8 ≤ dl) :
    ∃ w', (Builtin.copy_ #[38, 38] ty #[.slice (some ⟨q, o, none⟩) dl dc, .slice va 8 vc]).run Try.prog W = .ok (goInt 8) w' ∧ BoxN w' q (pgC (updB b o (littleN w 8)) t).toArray ∧ KP W.heap.size (· = q) W w' := by
  have hr := Rd.of_own hown
  obtain ⟨ab, ao, rfl, -, -⟩ := hr.2 (by decide)
  have hl : (u8s (littleN w 8)).length = 8 := by rw [u8s_length, littleN_length]
  obtain ⟨w', h1, h2, h3⟩ := run_copyB W ty q o dl dc ⟨ab, ao, none⟩ 8 vc (pgC b t) (u8s (littleN w 8)) hq (by rw [hl]; exact (Nat.min_eq_left hdl).symm) (rd_src hr) (by rw [hl, pgC_len]; omega) (u8s_one _)
  rw [hl] at h1
  rw [pgC_splice b t o (littleN w 8) (by rw [littleN_length]; exact ho)] at h2
  exact ⟨w', h1, h2, h3⟩
theorem copy_step {W1 W4 W5 : World} {q o dl dc vc : Nat} {va : Option Addr} {b : Nat → Nat} {t : Nat → Bool} {w : Nat} (ty : TypeId) (hq : BoxN W4 q (pgC b t).toArray) (hk : KP W1.heap.size (· = q) W1 W4) (hb : Below W4.heap.size W4 W5) (hown : W5.ownsRow W4.heap.size 5 1 (.slice va 8 vc) 8 (u8s (littleN w 8))) (ho : o + 8 ≤ 256) (hdl : 8 ≤ dl) :
    ∃ W6, (Builtin.copy_ #[38, 38] ty #[.slice (some ⟨q, o, none⟩) dl dc, .slice va 8 vc]).run Try.prog W5 = .ok (goInt 8) W6 ∧ BoxN W6 q (pgC (updB b o (littleN w 8)) t).toArray ∧ KP W1.heap.size (· = q) W1 W6 := by
  obtain ⟨W6, h1, h2, h3⟩ := copy_little W5 ty q o dl dc vc W4.heap.size va b t w (boxN_below hq hb) hown hq.lt ho hdl
  exact ⟨W6, h1, h2, (hk.below hb hk.size).trans (h3.mono (Nat.le_trans hk.size hb.size) (fun _ _ e => e))⟩
/-- a capability that there can be -/
structure FitC (c : Cp) : Prop where
  b0 : 0 ≤ c.b
  b1 : c.b < 18446744073709551616
  t0 : 0 ≤ c.t
  t1 : c.t < 18446744073709551616
  a0 : 0 ≤ c.a
  a1 : c.a < 18446744073709551616
end Go.Proofs.Yteaididdamihlaa
