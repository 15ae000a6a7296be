/- Numbers of instructions: what is encoded is decoded, and what is decoded is encoded, as plain arithmetic. No program is named here. -/
import Derived.Test.YtdpmihlmfephiaaGreatDoorIsaM
namespace Go.Proofs.YtdpmihlmfephiaaGreatDoor
set_option linter.unusedVariables false
set_option linter.unusedSimpArgs false
open Go Go.RowKit

def ibN (k : Int) (u : Nat) : Nat :=
  if (k == 2) = true then u * 1048576 % 4294967296 else if (k == 3) = true then u * 1048576 % 4294967296 else if (k == 4) = true then u / 32 % 128 * 33554432 ||| u % 32 * 128
  else if (k == 5) = true then ((u / 4096 % 2 * 2147483648 ||| u / 32 % 64 * 33554432) ||| u / 2 % 16 * 256) ||| u / 2048 % 2 * 128
  else if (k == 6) = true then u
  else if (k == 7) = true then ((u / 1048576 % 2 * 2147483648 ||| u / 2 % 1024 * 2097152) ||| u / 2048 % 2 * 1048576) ||| u / 4096 % 256 * 4096 else 0
def encN (b k : Int) (B : Nat) (rd rs1 rs2 u : Nat) : Nat := (B ||| ((rd * 128 ||| rs1 * 32768) ||| rs2 * 1048576)) ||| ibN k u
def immB (k s n : Int) : Bool :=
  if (k == 2) = true ∨ (k == 3) = true ∨ (k == 4) = true then (if (s == 6) = true then decide (0 ≤ n ∧ n < 64) else if (s == 5) = true then decide (0 ≤ n ∧ n < 32) else decide (-2048 ≤ n ∧ n < 2048))
  else if (k == 5) = true then decide (n % 2 = 0 ∧ -4096 ≤ n ∧ n < 4096)
  else if (k == 6) = true then decide (n % 4096 = 0 ∧ -2147483648 ≤ n ∧ n < 2147483648)
  else if (k == 7) = true then decide (n % 2 = 0 ∧ -1048576 ≤ n ∧ n < 1048576) else decide (n = 0)
def immZ (k s : Int) (w : Nat) : Int :=
  if (k == 2) = true ∨ (k == 3) = true then (if (s == 6) = true then ((w / 1048576 % 64 : Nat) : Int) else if (s == 5) = true then ((w / 1048576 % 32 : Nat) : Int) else sgI (w / 1048576 % 4096) 12)
  else if (k == 4) = true then sgI (w / 33554432 % 128 * 32 + w / 128 % 32) 12
  else if (k == 5) = true then sgI (w / 2147483648 % 2 * 4096 + w / 128 % 2 * 2048 + w / 33554432 % 64 * 32 + w / 256 % 16 * 2) 13
  else if (k == 6) = true then sgI (w / 4096 % 1048576 * 4096) 32
  else if (k == 7) = true then sgI (w / 2147483648 % 2 * 1048576 + w / 4096 % 256 * 4096 + w / 1048576 % 2 * 2048 + w / 2097152 % 1024 * 2) 21 else 0
def rdN (k : Int) (w : Nat) : Nat := if (hasZ k).1 = true then w / 128 % 32 else 0
def rs1N (k : Int) (w : Nat) : Nat := if (hasZ k).2.1 = true then w / 32768 % 32 else 0
def rs2N (k : Int) (w : Nat) : Nat := if (hasZ k).2.2 = true then w / 1048576 % 32 else 0
def encB (b rd rs1 rs2 : Nat) (n : Int) : Nat := encN 0 (kindZ b) b rd rs1 rs2 (n % 4294967296).toNat

theorem or7 (x r : Nat) (hr : r < 32) (hx : x / 128 % 32 = 0) : x ||| r * 128 = x + r * 128 := or_add x r 7 5 hr hx
theorem or15 (x r : Nat) (hr : r < 32) (hx : x / 32768 % 32 = 0) : x ||| r * 32768 = x + r * 32768 := or_add x r 15 5 hr hx
theorem or20 (x r : Nat) (hr : r < 32) (hx : x / 1048576 % 32 = 0) : x ||| r * 1048576 = x + r * 1048576 := or_add x r 20 5 hr hx
theorem or20s (x r : Nat) (hr : r < 64) (hx : x / 1048576 % 64 = 0) : x ||| r * 1048576 = x + r * 1048576 := or_add x r 20 6 hr hx
theorem or20l (x r : Nat) (hr : r < 4096) (hx : x / 1048576 % 4096 = 0) : x ||| r * 1048576 = x + r * 1048576 := or_add x r 20 12 hr hx
theorem or25 (x r : Nat) (hr : r < 128) (hx : x / 33554432 % 128 = 0) : x ||| r * 33554432 = x + r * 33554432 := or_add x r 25 7 hr hx
theorem or25s (x r : Nat) (hr : r < 64) (hx : x / 33554432 % 64 = 0) : x ||| r * 33554432 = x + r * 33554432 := or_add x r 25 6 hr hx
theorem or31 (x r : Nat) (hr : r < 2) (hx : x / 2147483648 % 2 = 0) : x ||| r * 2147483648 = x + r * 2147483648 := or_add x r 31 1 hr hx
theorem or8 (x r : Nat) (hr : r < 16) (hx : x / 256 % 16 = 0) : x ||| r * 256 = x + r * 256 := or_add x r 8 4 hr hx
theorem or71 (x r : Nat) (hr : r < 2) (hx : x / 128 % 2 = 0) : x ||| r * 128 = x + r * 128 := or_add x r 7 1 hr hx
theorem or12 (x r : Nat) (hr : r < 1048576) (hx : x / 4096 % 1048576 = 0) : x ||| r * 4096 = x + r * 4096 := or_add x r 12 20 hr hx
theorem or12s (x r : Nat) (hr : r < 256) (hx : x / 4096 % 256 = 0) : x ||| r * 4096 = x + r * 4096 := or_add x r 12 8 hr hx
theorem or201 (x r : Nat) (hr : r < 2) (hx : x / 1048576 % 2 = 0) : x ||| r * 1048576 = x + r * 1048576 := or_add x r 20 1 hr hx
theorem or21 (x r : Nat) (hr : r < 1024) (hx : x / 2097152 % 1024 = 0) : x ||| r * 2097152 = x + r * 2097152 := or_add x r 21 10 hr hx
theorem mask_two (x a b c : Nat) (h : 4294967295 - c = (4294967295 - a) &&& (4294967295 - b)) : x &&& (4294967295 - c) = (x &&& (4294967295 - a)) &&& (4294967295 - b) := by rw [h, Nat.and_assoc]
theorem not7 (x : Nat) (hx : x < 4294967296) : x &&& (4294967295 - 3968) = x - x / 128 % 32 * 128 := not_field x 7 5 hx (by decide)
theorem not15 (x : Nat) (hx : x < 4294967296) : x &&& (4294967295 - 1015808) = x - x / 32768 % 32 * 32768 := not_field x 15 5 hx (by decide)
theorem not20 (x : Nat) (hx : x < 4294967296) : x &&& (4294967295 - 32505856) = x - x / 1048576 % 32 * 1048576 := not_field x 20 5 hx (by decide)
theorem not20s (x : Nat) (hx : x < 4294967296) : x &&& (4294967295 - 66060288) = x - x / 1048576 % 64 * 1048576 := not_field x 20 6 hx (by decide)
theorem not15l (x : Nat) (hx : x < 4294967296) : x &&& (4294967295 - 4294934528) = x - x / 32768 % 131072 * 32768 := not_field x 15 17 hx (by decide)
theorem not7l (x : Nat) (hx : x < 4294967296) : x &&& (4294967295 - 4294967168) = x - x / 128 % 33554432 * 128 := not_field x 7 25 hx (by decide)
/-- registers 7 and 15 -/
theorem clr8 (x : Nat) (hx : x < 4294967296) : x &&& (4294967295 - 1019776) = x - x / 128 % 32 * 128 - x / 32768 % 32 * 32768 := by
  rw [mask_two x 3968 1015808 1019776 (by decide), not7 x hx, not15 _ (by omega)]; omega
theorem clr1 (x : Nat) (hx : x < 4294967296) : x &&& (4294967295 - 33525632) = x - x / 128 % 32 * 128 - x / 32768 % 32 * 32768 - x / 1048576 % 32 * 1048576 := by
  rw [mask_two x 1019776 32505856 33525632 (by decide), clr8 x hx, not20 _ (by omega)]; omega
theorem clr6 (x : Nat) (hx : x < 4294967296) : x &&& (4294967295 - 67080064) = x - x / 128 % 32 * 128 - x / 32768 % 32 * 32768 - x / 1048576 % 64 * 1048576 := by
  rw [mask_two x 1019776 66060288 67080064 (by decide), clr8 x hx, not20s _ (by omega)]; omega
theorem clr2 (x : Nat) (hx : x < 4294967296) : x &&& (4294967295 - 4294938496) = x % 32768 - x / 128 % 32 * 128 := by
  rw [mask_two x 4294934528 3968 4294938496 (by decide), not15l x hx, not7 _ (by omega)]; omega
theorem clr10 (x : Nat) (hx : x < 4294967296) : x &&& (4294967295 - 33521664) = x - x / 32768 % 32 * 32768 - x / 1048576 % 32 * 1048576 := by
  rw [mask_two x 1015808 32505856 33521664 (by decide), not15 x hx, not20 _ (by omega)]; omega
theorem clr0 (x : Nat) (hx : x < 4294967296) : x &&& (4294967295 - 0) = x := by
  have := not_field x 0 0 hx (by decide)
  simpa [Nat.mod_one] using this

def Back (b : Nat) : Prop := ∀ (rd rs1 rs2 : Nat) (n : Int), regsB (kindZ b) rd rs1 rs2 = true → immB (kindZ b) (shiftZ b) n = true →
  encB b rd rs1 rs2 n < 4294967296 ∧ hitB b (encB b rd rs1 rs2 n) = true ∧ rdN (kindZ b) (encB b rd rs1 rs2 n) = rd ∧ rs1N (kindZ b) (encB b rd rs1 rs2 n) = rs1 ∧ rs2N (kindZ b) (encB b rd rs1 rs2 n) = rs2 ∧ immZ (kindZ b) (shiftZ b) (encB b rd rs1 rs2 n) = n
def Again (b : Nat) : Prop := ∀ w : Nat, w < 4294967296 → hitB b w = true →
  regsB (kindZ b) (rdN (kindZ b) w) (rs1N (kindZ b) w) (rs2N (kindZ b) w) = true ∧ immB (kindZ b) (shiftZ b) (immZ (kindZ b) (shiftZ b) w) = true ∧ encB b (rdN (kindZ b) w) (rs1N (kindZ b) w) (rs2N (kindZ b) w) (immZ (kindZ b) (shiftZ b) w) = w
/-! The functions at each kind. -/
theorem ibN_2 (u : Nat) : ibN 2 u = u * 1048576 % 4294967296 := by unfold ibN; rw [if_pos (by decide)]
theorem ibN_3 (u : Nat) : ibN 3 u = u * 1048576 % 4294967296 := by unfold ibN; rw [if_neg (by decide), if_pos (by decide)]
theorem ibN_4 (u : Nat) : ibN 4 u = u / 32 % 128 * 33554432 ||| u % 32 * 128 := by unfold ibN; rw [if_neg (by decide), if_neg (by decide), if_pos (by decide)]
theorem ibN_5 (u : Nat) : ibN 5 u = ((u / 4096 % 2 * 2147483648 ||| u / 32 % 64 * 33554432) ||| u / 2 % 16 * 256) ||| u / 2048 % 2 * 128 := by unfold ibN; rw [if_neg (by decide), if_neg (by decide), if_neg (by decide), if_pos (by decide)]
theorem ibN_6 (u : Nat) : ibN 6 u = u := by unfold ibN; rw [if_neg (by decide), if_neg (by decide), if_neg (by decide), if_neg (by decide), if_pos (by decide)]
theorem ibN_7 (u : Nat) : ibN 7 u = ((u / 1048576 % 2 * 2147483648 ||| u / 2 % 1024 * 2097152) ||| u / 2048 % 2 * 1048576) ||| u / 4096 % 256 * 4096 := by unfold ibN; rw [if_neg (by decide), if_neg (by decide), if_neg (by decide), if_neg (by decide), if_neg (by decide), if_pos (by decide)]
theorem ibN_1 (u : Nat) : ibN 1 u = 0 := by unfold ibN; rw [if_neg (by decide), if_neg (by decide), if_neg (by decide), if_neg (by decide), if_neg (by decide), if_neg (by decide)]
theorem ibN_8 (u : Nat) : ibN 8 u = 0 := by unfold ibN; rw [if_neg (by decide), if_neg (by decide), if_neg (by decide), if_neg (by decide), if_neg (by decide), if_neg (by decide)]
theorem ibN_9 (u : Nat) : ibN 9 u = 0 := by unfold ibN; rw [if_neg (by decide), if_neg (by decide), if_neg (by decide), if_neg (by decide), if_neg (by decide), if_neg (by decide)]
theorem ibN_10 (u : Nat) : ibN 10 u = 0 := by unfold ibN; rw [if_neg (by decide), if_neg (by decide), if_neg (by decide), if_neg (by decide), if_neg (by decide), if_neg (by decide)]
theorem immZ_2_0 (w : Nat) : immZ 2 0 w = sgI (w / 1048576 % 4096) 12 := by unfold immZ; rw [if_pos (by decide), if_neg (by decide), if_neg (by decide)]
theorem immZ_2_6 (w : Nat) : immZ 2 6 w = ((w / 1048576 % 64 : Nat) : Int) := by unfold immZ; rw [if_pos (by decide), if_pos (by decide)]
theorem immZ_2_5 (w : Nat) : immZ 2 5 w = ((w / 1048576 % 32 : Nat) : Int) := by unfold immZ; rw [if_pos (by decide), if_neg (by decide), if_pos (by decide)]
theorem immZ_3_0 (w : Nat) : immZ 3 0 w = sgI (w / 1048576 % 4096) 12 := by unfold immZ; rw [if_pos (by decide), if_neg (by decide), if_neg (by decide)]
theorem immZ_3_6 (w : Nat) : immZ 3 6 w = ((w / 1048576 % 64 : Nat) : Int) := by unfold immZ; rw [if_pos (by decide), if_pos (by decide)]
theorem immZ_3_5 (w : Nat) : immZ 3 5 w = ((w / 1048576 % 32 : Nat) : Int) := by unfold immZ; rw [if_pos (by decide), if_neg (by decide), if_pos (by decide)]
theorem immZ_4 (s : Int) (w : Nat) : immZ 4 s w = sgI (w / 33554432 % 128 * 32 + w / 128 % 32) 12 := by unfold immZ; rw [if_neg (by decide), if_pos (by decide)]
theorem immZ_5 (s : Int) (w : Nat) : immZ 5 s w = sgI (w / 2147483648 % 2 * 4096 + w / 128 % 2 * 2048 + w / 33554432 % 64 * 32 + w / 256 % 16 * 2) 13 := by unfold immZ; rw [if_neg (by decide), if_neg (by decide), if_pos (by decide)]
theorem immZ_6 (s : Int) (w : Nat) : immZ 6 s w = sgI (w / 4096 % 1048576 * 4096) 32 := by unfold immZ; rw [if_neg (by decide), if_neg (by decide), if_neg (by decide), if_pos (by decide)]
theorem immZ_7 (s : Int) (w : Nat) : immZ 7 s w = sgI (w / 2147483648 % 2 * 1048576 + w / 4096 % 256 * 4096 + w / 1048576 % 2 * 2048 + w / 2097152 % 1024 * 2) 21 := by unfold immZ; rw [if_neg (by decide), if_neg (by decide), if_neg (by decide), if_neg (by decide), if_pos (by decide)]
theorem immZ_1 (s : Int) (w : Nat) : immZ 1 s w = 0 := by unfold immZ; rw [if_neg (by decide), if_neg (by decide), if_neg (by decide), if_neg (by decide), if_neg (by decide)]
theorem immZ_8 (s : Int) (w : Nat) : immZ 8 s w = 0 := by unfold immZ; rw [if_neg (by decide), if_neg (by decide), if_neg (by decide), if_neg (by decide), if_neg (by decide)]
theorem immZ_9 (s : Int) (w : Nat) : immZ 9 s w = 0 := by unfold immZ; rw [if_neg (by decide), if_neg (by decide), if_neg (by decide), if_neg (by decide), if_neg (by decide)]
theorem immZ_10 (s : Int) (w : Nat) : immZ 10 s w = 0 := by unfold immZ; rw [if_neg (by decide), if_neg (by decide), if_neg (by decide), if_neg (by decide), if_neg (by decide)]
theorem hasZ_1 : hasZ 1 = (true, true, true) := by decide
theorem rdN_1 (w : Nat) : rdN 1 w = w / 128 % 32 := by unfold rdN; rw [hasZ_1]; exact if_pos rfl
theorem rs1N_1 (w : Nat) : rs1N 1 w = w / 32768 % 32 := by unfold rs1N; rw [hasZ_1]; exact if_pos rfl
theorem rs2N_1 (w : Nat) : rs2N 1 w = w / 1048576 % 32 := by unfold rs2N; rw [hasZ_1]; exact if_pos rfl
theorem hasZ_2 : hasZ 2 = (true, true, false) := by decide
theorem rdN_2 (w : Nat) : rdN 2 w = w / 128 % 32 := by unfold rdN; rw [hasZ_2]; exact if_pos rfl
theorem rs1N_2 (w : Nat) : rs1N 2 w = w / 32768 % 32 := by unfold rs1N; rw [hasZ_2]; exact if_pos rfl
theorem rs2N_2 (w : Nat) : rs2N 2 w = 0 := by unfold rs2N; rw [hasZ_2]; exact if_neg (by decide)
theorem hasZ_3 : hasZ 3 = (true, true, false) := by decide
theorem rdN_3 (w : Nat) : rdN 3 w = w / 128 % 32 := by unfold rdN; rw [hasZ_3]; exact if_pos rfl
theorem rs1N_3 (w : Nat) : rs1N 3 w = w / 32768 % 32 := by unfold rs1N; rw [hasZ_3]; exact if_pos rfl
theorem rs2N_3 (w : Nat) : rs2N 3 w = 0 := by unfold rs2N; rw [hasZ_3]; exact if_neg (by decide)
theorem hasZ_8 : hasZ 8 = (true, true, false) := by decide
theorem rdN_8 (w : Nat) : rdN 8 w = w / 128 % 32 := by unfold rdN; rw [hasZ_8]; exact if_pos rfl
theorem rs1N_8 (w : Nat) : rs1N 8 w = w / 32768 % 32 := by unfold rs1N; rw [hasZ_8]; exact if_pos rfl
theorem rs2N_8 (w : Nat) : rs2N 8 w = 0 := by unfold rs2N; rw [hasZ_8]; exact if_neg (by decide)
theorem hasZ_4 : hasZ 4 = (false, true, true) := by decide
theorem rdN_4 (w : Nat) : rdN 4 w = 0 := by unfold rdN; rw [hasZ_4]; exact if_neg (by decide)
theorem rs1N_4 (w : Nat) : rs1N 4 w = w / 32768 % 32 := by unfold rs1N; rw [hasZ_4]; exact if_pos rfl
theorem rs2N_4 (w : Nat) : rs2N 4 w = w / 1048576 % 32 := by unfold rs2N; rw [hasZ_4]; exact if_pos rfl
theorem hasZ_5 : hasZ 5 = (false, true, true) := by decide
theorem rdN_5 (w : Nat) : rdN 5 w = 0 := by unfold rdN; rw [hasZ_5]; exact if_neg (by decide)
theorem rs1N_5 (w : Nat) : rs1N 5 w = w / 32768 % 32 := by unfold rs1N; rw [hasZ_5]; exact if_pos rfl
theorem rs2N_5 (w : Nat) : rs2N 5 w = w / 1048576 % 32 := by unfold rs2N; rw [hasZ_5]; exact if_pos rfl
theorem hasZ_10 : hasZ 10 = (false, true, true) := by decide
theorem rdN_10 (w : Nat) : rdN 10 w = 0 := by unfold rdN; rw [hasZ_10]; exact if_neg (by decide)
theorem rs1N_10 (w : Nat) : rs1N 10 w = w / 32768 % 32 := by unfold rs1N; rw [hasZ_10]; exact if_pos rfl
theorem rs2N_10 (w : Nat) : rs2N 10 w = w / 1048576 % 32 := by unfold rs2N; rw [hasZ_10]; exact if_pos rfl
theorem hasZ_6 : hasZ 6 = (true, false, false) := by decide
theorem rdN_6 (w : Nat) : rdN 6 w = w / 128 % 32 := by unfold rdN; rw [hasZ_6]; exact if_pos rfl
theorem rs1N_6 (w : Nat) : rs1N 6 w = 0 := by unfold rs1N; rw [hasZ_6]; exact if_neg (by decide)
theorem rs2N_6 (w : Nat) : rs2N 6 w = 0 := by unfold rs2N; rw [hasZ_6]; exact if_neg (by decide)
theorem hasZ_7 : hasZ 7 = (true, false, false) := by decide
theorem rdN_7 (w : Nat) : rdN 7 w = w / 128 % 32 := by unfold rdN; rw [hasZ_7]; exact if_pos rfl
theorem rs1N_7 (w : Nat) : rs1N 7 w = 0 := by unfold rs1N; rw [hasZ_7]; exact if_neg (by decide)
theorem rs2N_7 (w : Nat) : rs2N 7 w = 0 := by unfold rs2N; rw [hasZ_7]; exact if_neg (by decide)
theorem hasZ_9 : hasZ 9 = (false, false, false) := by decide
theorem rdN_9 (w : Nat) : rdN 9 w = 0 := by unfold rdN; rw [hasZ_9]; exact if_neg (by decide)
theorem rs1N_9 (w : Nat) : rs1N 9 w = 0 := by unfold rs1N; rw [hasZ_9]; exact if_neg (by decide)
theorem rs2N_9 (w : Nat) : rs2N 9 w = 0 := by unfold rs2N; rw [hasZ_9]; exact if_neg (by decide)
theorem fit_yes (r : Nat) : fitB r true = decide (r < 32) := by
  unfold fitB
  by_cases h0 : r = 0
  · subst h0; simp
  · rw [if_neg (by simp; omega), if_pos rfl, decide_eq_true (by omega), if_pos rfl]; simp; omega
theorem fit_no (r : Nat) : fitB r false = decide (r = 0) := by
  unfold fitB
  by_cases h0 : r = 0
  · subst h0; simp
  · rw [if_neg (by simp; omega), if_neg (by decide)]; simp [h0]
end Go.Proofs.YtdpmihlmfephiaaGreatDoor
