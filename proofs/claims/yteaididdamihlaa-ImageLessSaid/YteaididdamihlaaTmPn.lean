/- Bytes that are put, none of them too: contracts. -/
import Derived.Test.YteaididdamihlaaTmV
import Derived.Test.YteaididdamihlaaTmH
namespace Go.Proofs.Yteaididdamihlaa
set_option linter.unusedVariables false
set_option linter.unusedSimpArgs false
open Go.Joins Go.ChangeShapes Go.WideShapes Go.ChangeAt Go.RowKit Go.Deep

theorem put_nil (W : World) (M : Nat) (F : Nat → Prop) (m : Mm) (h : MemAt W M F m) (x c : Nat) (sa : Option Addr) (hx : x < 18446744073709551616) :
    Calls Try.prog 29 #[.pointer (some ⟨M, 0, none⟩), .int .u64 (x : Int), .slice sa 0 c] W fun e W' => e = .returned (.int .i64 0) ∧ W = W' := by
  obtain ⟨B, D, pb, h⟩ := h
  have HH := Lib.hid (has_any W M B D pb F m h x 0 hx (by decide))
  rw [show allB m x 0 = true from rfl, show ((0 : Nat) : Int) = 0 from rfl] at HH
  clear h
  go_enter Try.func29, Try.ntmps29
  go_wp2_with fail
  refine HH.out.mono ?_; rintro e W0 ⟨rfl, rfl⟩
  go_wp2_with fail
  go_loopw [1, 2, 7, 8] (fun av sv _ _ wr => av = .int .u64 (x : Int) ∧ sv = .slice sa 0 c ∧ W = wr) (fun i _ _ _ _ => 0)
  case atStart => exact ⟨rfl, rfl, rfl⟩
  case round =>
    obtain ⟨rfl, rfl, rfl⟩ := hrel
    go_wp2_with fail
    go_ret
    exact ⟨rfl, rfl⟩
theorem putF_nil (m : Mm) (x : Int) : putF m x [] = (m, 0) := by
  unfold putF
  rw [show allB m x.toNat ([] : List Nat).length = true from rfl]
  rfl
theorem putA_any (W : World) (M : Nat) (F : Nat → Prop) (m : Mm) (h : MemAt W M F m) (x n c : Nat) (sa : Option Addr) (l : List Nat) (hx : x < 18446744073709551616) (hln : l.length = n) (hnc : n ≤ c) (hn : n < 9223372036854775808) (hbl : ∀ b ∈ l, b < 256) (hs : Rd W sa n (u8s l)) (hne : 0 < n → ∀ g off, sa = some ⟨g, off, none⟩ → ¬ F g) :
    Calls Try.prog 29 #[.pointer (some ⟨M, 0, none⟩), .int .u64 (x : Int), .slice sa n c] W fun e W' => e = .returned (.int .i64 (putF m x l).2) ∧ MemAt W' M F (putF m x l).1 ∧ KP W.heap.size F W W' := by
  rcases Nat.eq_zero_or_pos n with h0 | h0
  · subst h0
    obtain rfl : l = [] := List.length_eq_zero_iff.1 hln
    rw [putF_nil]
    refine (put_nil W M F m h x c sa hx).mono ?_
    rintro e W' ⟨rfl, rfl⟩
    exact ⟨rfl, h, KP.refl _ _ _⟩
  · exact put_any W M F m h x n c sa l hx hln hnc hn hbl hs (hne h0)
end Go.Proofs.Yteaididdamihlaa
