/- The chapter's examples: values; wrong; awake. -/
import Derived.Test.YtdpmihlmfephiaaGreatDoorAsV
namespace Go.Proofs.YtdpmihlmfephiaaGreatDoor
set_option linter.unusedVariables false
set_option linter.unusedSimpArgs false
open Go.Joins Go.ChangeShapes Go.WideShapes Go.ChangeAt Go.RowKit Go.Deep

theorem aw1 : parF [108, 100, 32, 99, 50, 44, 32, 45, 56, 40, 99, 51, 41] = some (((findF [108, 100] : Nat) : Int), (⟨2, 3, 0, -8⟩ : Ins)) := by decide +kernel
theorem aw2 : parF [97, 100, 100, 105, 32, 99, 49, 44, 99, 48, 44, 53] = none := by decide +kernel
theorem aw3 : parF [97, 100, 100, 105, 32, 99, 49, 44, 32, 99, 48, 44, 32, 48, 53] = none := by decide +kernel
theorem aw4 : parF [97, 100, 100, 32, 99, 51, 50, 44, 32, 99, 48, 44, 32, 99, 48] = none := by decide +kernel
theorem aw5 : parF [101, 99, 97, 108, 108, 32] = none := by decide +kernel
def awC : List UInt8 := le4 (encB (bareN 29) 1 1 0 (-1)) ++ le4 (encB (bareN (findF [98, 110, 101])) 0 1 0 (-4))
theorem aw6 : progX [120, 58, 32, 10, 97, 100, 100, 105, 32, 99, 49, 44, 32, 99, 49, 44, 32, 45, 49, 32, 59, 32, 108, 101, 115, 115, 10, 98, 110, 101, 32, 99, 49, 44, 32, 99, 48, 44, 32, 120] = (awC, 0, 0) := by decide +kernel
theorem aw7 : listX awC = ([97, 100, 100, 105, 32, 99, 49, 44, 32, 99, 49, 44, 32, 45, 49, 10, 98, 110, 101, 32, 99, 49, 44, 32, 99, 48, 44, 32, 45, 52, 10], 0) := by decide +kernel
theorem aw8 : progX [120, 58, 10, 120, 58] = ([], 2, 51) := by decide +kernel
theorem aw9 : progX [99, 106, 97, 108, 32, 99, 48, 44, 32, 121] = ([], 1, 51) := by decide +kernel
theorem wrong_any (s c : List UInt8) (n : Nat) (e : Int) (w : World) (hn : NA w) (hl : s.length < 1000000) (hp : progX s = (c, n, e)) (h0 : 0 ≤ e) (h1 : e ≤ 1000) (h2 : n ≤ 100000) :
    Calls Tryz.prog 26 #[.string ⟨s.toArray⟩] w fun e' w' => e' = .returned (.int .i64 (100 * e + n)) ∧ Below w.heap.size w w' := by
  have H := Lib.hid (program_any s w hn hl)
  rw [hp] at H
  unfold ProPost at H
  have k1 : IntKind.i64.wrap (100 * e) = 100 * e := by rw [IntKind.wrap_i64]; omega
  have k2 : IntKind.i64.wrap (100 * e + (n : Int)) = 100 * e + (n : Int) := by rw [IntKind.wrap_i64]; omega
  clear hn hl hp
  go_enter Tryz.func26, Tryz.ntmps26
  go_wp2_with (go_at_call 17; refine H.out.mono ?_; rintro e' w1 ⟨a, c, rfl, -, -, hb⟩; have HB := Lib.hid hb; clear hb)
  go_ret
  exact ⟨rfl, HB.out⟩
theorem prog_awake (w : World) (hn : NA w) : Calls Tryz.prog 17 #[.string ⟨#[120, 58, 32, 10, 97, 100, 100, 105, 32, 99, 49, 44, 32, 99, 49, 44, 32, 45, 49, 32, 59, 32, 108, 101, 115, 115, 10, 98, 110, 101, 32, 99, 49, 44, 32, 99, 48, 44, 32, 120]⟩] w fun e w' => ∃ a c, e = .returned (.tuple #[.slice a 8 c, .int .i64 0, .int .i64 0]) ∧ Rd w' a 8 (u8B awC) ∧ 8 ≤ c ∧ Below w.heap.size w w' := by
  have h := program_any [120, 58, 32, 10, 97, 100, 100, 105, 32, 99, 49, 44, 32, 99, 49, 44, 32, 45, 49, 32, 59, 32, 108, 101, 115, 115, 10, 98, 110, 101, 32, 99, 49, 44, 32, 99, 48, 44, 32, 120] w hn (by decide)
  rw [aw6] at h
  exact h
theorem list_awake (w : World) (hn : NA w) (a : Option Addr) (c : Nat) (hr : Rd w a 8 (u8B awC)) (hc : 8 ≤ c) : Calls Tryz.prog 20 #[.slice a 8 c] w fun e w' => e = .returned (.tuple #[.string ⟨#[97, 100, 100, 105, 32, 99, 49, 44, 32, 99, 49, 44, 32, 45, 49, 10, 98, 110, 101, 32, 99, 49, 44, 32, 99, 48, 44, 32, 45, 52, 10]⟩, .int .i64 0]) ∧ Below w.heap.size w w' := by
  have h := list_any a awC c w hn hr hc (by decide)
  rw [aw7] at h
  exact h
theorem parse_aw1 (w : World) (hn : NA w) : ∃ op : Int, Calls Tryz.prog 15 #[.string ⟨#[108, 100, 32, 99, 50, 44, 32, 45, 56, 40, 99, 51, 41]⟩] w fun e w' => e = .returned (.tuple #[.agg #[.int .i64 op, .int .i64 2, .int .i64 3, .int .i64 0, .int .i64 (-8)], .int .i64 0]) ∧ Below w.heap.size w w' := by
  have h := parse_any [108, 100, 32, 99, 50, 44, 32, 45, 56, 40, 99, 51, 41] w hn (by decide)
  rw [(par_some aw1).1, (par_some aw1).2] at h
  exact ⟨_, h⟩
theorem parse_aw2 (w : World) (hn : NA w) : Calls Tryz.prog 15 #[.string ⟨#[97, 100, 100, 105, 32, 99, 49, 44, 99, 48, 44, 53]⟩] w fun e w' => e = .returned (.tuple #[.agg #[.int .i64 0, .int .i64 0, .int .i64 0, .int .i64 0, .int .i64 0], .int .i64 50]) ∧ Below w.heap.size w w' := by
  have h := parse_any [97, 100, 100, 105, 32, 99, 49, 44, 99, 48, 44, 53] w hn (by decide)
  rw [(par_none aw2).1, (par_none aw2).2] at h
  exact h
theorem parse_aw3 (w : World) (hn : NA w) : Calls Tryz.prog 15 #[.string ⟨#[97, 100, 100, 105, 32, 99, 49, 44, 32, 99, 48, 44, 32, 48, 53]⟩] w fun e w' => e = .returned (.tuple #[.agg #[.int .i64 0, .int .i64 0, .int .i64 0, .int .i64 0, .int .i64 0], .int .i64 50]) ∧ Below w.heap.size w w' := by
  have h := parse_any [97, 100, 100, 105, 32, 99, 49, 44, 32, 99, 48, 44, 32, 48, 53] w hn (by decide)
  rw [(par_none aw3).1, (par_none aw3).2] at h
  exact h
theorem parse_aw4 (w : World) (hn : NA w) : Calls Tryz.prog 15 #[.string ⟨#[97, 100, 100, 32, 99, 51, 50, 44, 32, 99, 48, 44, 32, 99, 48]⟩] w fun e w' => e = .returned (.tuple #[.agg #[.int .i64 0, .int .i64 0, .int .i64 0, .int .i64 0, .int .i64 0], .int .i64 50]) ∧ Below w.heap.size w w' := by
  have h := parse_any [97, 100, 100, 32, 99, 51, 50, 44, 32, 99, 48, 44, 32, 99, 48] w hn (by decide)
  rw [(par_none aw4).1, (par_none aw4).2] at h
  exact h
theorem parse_aw5 (w : World) (hn : NA w) : Calls Tryz.prog 15 #[.string ⟨#[101, 99, 97, 108, 108, 32]⟩] w fun e w' => e = .returned (.tuple #[.agg #[.int .i64 0, .int .i64 0, .int .i64 0, .int .i64 0, .int .i64 0], .int .i64 50]) ∧ Below w.heap.size w w' := by
  have h := parse_any [101, 99, 97, 108, 108, 32] w hn (by decide)
  rw [(par_none aw5).1, (par_none aw5).2] at h
  exact h
theorem wrong1 (w : World) (hn : NA w) : Calls Tryz.prog 26 #[.string ⟨#[120, 58, 10, 120, 58]⟩] w fun e w' => e = .returned (.int .i64 5102) ∧ Below w.heap.size w w' := wrong_any [120, 58, 10, 120, 58] _ 2 51 w hn (by decide) aw8 (by decide) (by decide) (by decide)
theorem wrong2 (w : World) (hn : NA w) : Calls Tryz.prog 26 #[.string ⟨#[99, 106, 97, 108, 32, 99, 48, 44, 32, 121]⟩] w fun e w' => e = .returned (.int .i64 5101) ∧ Below w.heap.size w w' := wrong_any [99, 106, 97, 108, 32, 99, 48, 44, 32, 121] _ 1 51 w hn (by decide) aw9 (by decide) (by decide) (by decide)
set_option maxRecDepth 100000 in
set_option maxHeartbeats 2000000 in
theorem awake_any (w : World) (hn : NA w) : Calls Tryz.prog 12 #[] w fun e w' => e = .returned (.bool true) ∧ Below w.heap.size w w' := by
  obtain ⟨op, hp1⟩ := parse_aw1 w hn
  have HP1 := Lib.hid hp1
  have HP2 := Lib.hid parse_aw2
  have HP3 := Lib.hid parse_aw3
  have HP4 := Lib.hid parse_aw4
  have HP5 := Lib.hid parse_aw5
  have HPG := Lib.hid prog_awake
  have HLS := Lib.hid list_awake
  have HW1 := Lib.hid wrong1
  have HW2 := Lib.hid wrong2
  have HN0 := Lib.hid hn
  clear hp1 hn
  go_enter Tryz.func12, Tryz.ntmps12
  go_wp2_with (first
    | (go_at_call 15; refine (HP5.out _ (HN4.out.alloc _)).mono ?_; rintro e w5 ⟨rfl, hb⟩; have hb9 := (bAlloc (Below.refl w4.heap.size w4) _).trans (hb.mono (Nat.le_of_lt (by simp))); have HB5 := Lib.hid (HB4.out.trans (hb9.mono HB4.out.size)); have HN5 := Lib.hid (HN4.out.on hb9); have HX5 := Lib.hid (boxN_below HX4.out hb9); clear hb hb9)
    | (go_at_call 15; refine (HP4.out _ (HN3.out.alloc _)).mono ?_; rintro e w4 ⟨rfl, hb⟩; have hb9 := (bAlloc (Below.refl w3.heap.size w3) _).trans (hb.mono (Nat.le_of_lt (by simp))); have HB4 := Lib.hid (HB3.out.trans (hb9.mono HB3.out.size)); have HN4 := Lib.hid (HN3.out.on hb9); have HX4 := Lib.hid (boxN_below HX3.out hb9); clear hb hb9)
    | (go_at_call 15; refine (HP3.out _ (HN2.out.alloc _)).mono ?_; rintro e w3 ⟨rfl, hb⟩; have hb9 := (bAlloc (Below.refl w2.heap.size w2) _).trans (hb.mono (Nat.le_of_lt (by simp))); have HB3 := Lib.hid (HB2.out.trans (hb9.mono HB2.out.size)); have HN3 := Lib.hid (HN2.out.on hb9); have HX3 := Lib.hid (boxN_below HX2.out hb9); clear hb hb9)
    | (go_at_call 15; refine (HP2.out _ (HN1.out.alloc _)).mono ?_; rintro e w2 ⟨rfl, hb⟩; have hb9 := (bAlloc (Below.refl w1.heap.size w1) _).trans (hb.mono (Nat.le_of_lt (by simp))); have HB2 := Lib.hid (HB1.out.trans (hb9.mono HB1.out.size)); have HN2 := Lib.hid (HN1.out.on hb9); have HX2 := Lib.hid (HX1.out.below hb (by simp)); clear hb hb9)
    | (go_at_call 15; refine HP1.out.mono ?_; rintro e w1 ⟨rfl, hb⟩; have HB1 := Lib.hid hb; have HN1 := Lib.hid (HN0.out.on hb); have HX1 := Lib.hid (BoxN.new w1 #[.int .i64 op, .int .i64 2, .int .i64 3, .int .i64 0, .int .i64 (-8)] 23); have HZ1 : Hid (w1.heap.size < w1.heap.size + 1) := Lib.hid (Nat.lt_succ_self _); clear hb)
    | (go_at_call 17; refine (HPG.out _ (HN5.out.alloc _)).mono ?_; rintro e w6 ⟨a, c, rfl, hrd, hc, hb⟩; have hb9 := (bAlloc (Below.refl w5.heap.size w5) _).trans (hb.mono (Nat.le_of_lt (by simp))); have HB6 := Lib.hid (HB5.out.trans (hb9.mono HB5.out.size)); have HN6 := Lib.hid (HN5.out.on hb9); have HX6 := Lib.hid (boxN_below HX5.out hb9); have HRD := Lib.hid hrd; have HC := Lib.hid hc; clear hb hb9 hrd hc)
    | (go_at_call 20; refine (HLS.out _ HN6.out _ _ HRD.out HC.out).mono ?_; rintro e w7 ⟨rfl, hb⟩; have HB7 := Lib.hid (HB6.out.trans (hb.mono HB6.out.size)); have HN7 := Lib.hid (HN6.out.on hb); have HX7 := Lib.hid (boxN_below HX6.out hb); clear hb)
    | (go_at_call 26; refine (HW2.out _ HN8.out).mono ?_; rintro e w9 ⟨rfl, hb⟩; have HB9 := Lib.hid (HB8.out.trans (hb.mono HB8.out.size)); have hx9 := boxN_below HX8.out hb; obtain ⟨⟨q0, q1, q2, q3, q4⟩, -⟩ := box5 hx9; clear hb hx9)
    | (go_at_call 26; refine (HW1.out _ HN7.out).mono ?_; rintro e w8 ⟨rfl, hb⟩; have HB8 := Lib.hid (HB7.out.trans (hb.mono HB7.out.size)); have HN8 := Lib.hid (HN7.out.on hb); have HX8 := Lib.hid (boxN_below HX7.out hb); clear hb))
  go_ret
  exact ⟨rfl, HB9.out⟩
end Go.Proofs.YtdpmihlmfephiaaGreatDoor
