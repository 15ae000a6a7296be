/- IsaN IsaA IsaB IsaC -/
import Derived.Test.YtegoddghfjfibaaGreatDoorZ10
import Derived.Test.YtegoddghfjfibaaGreatDoorZ01
import Derived.Lib.SmallJoins
import Derived.Lib.Hide
import Derived.Great.Walk
import Derived.Laws.EntriesVeiled
import Derived.Laws.NewBlocks
import Derived.Deep.RegionHeld3
namespace Go.Proofs.YtegoddghfjfibaaGreatDoor.Is
set_option linter.unusedVariables false
set_option linter.unusedSimpArgs false
open Go Go.RowKit

def ibN (k : Int) (u : Nat) : Nat :=
  if (k == 2) = true then u * 1048576 % 4294967296 else if (k == 3) = true then u * 1048576 % 4294967296 else if (k == 4) = true then u / 32 % 128 * 33554432 ||| u % 32 * 128
  else if (k == 5) = true then ((u / 4096 % 2 * 2147483648 ||| u / 32 % 64 * 33554432) ||| u / 2 % 16 * 256) ||| u / 2048 % 2 * 128
  else if (k == 6) = true then u
  else if (k == 7) = true then ((u / 1048576 % 2 * 2147483648 ||| u / 2 % 1024 * 2097152) ||| u / 2048 % 2 * 1048576) ||| u / 4096 % 256 * 4096 else 0
def encN (b k : Int) (B : Nat) (rd rs1 rs2 u : Nat) : Nat := (B ||| ((rd * 128 ||| rs1 * 32768) ||| rs2 * 1048576)) ||| ibN k u
def immB (k s n : Int) : Bool :=
  if (k == 2) = true ∨ (k == 3) = true ∨ (k == 4) = true then (if (s == 6) = true then decide (0 ≤ n ∧ n < 64) else if (s == 5) = true then decide (0 ≤ n ∧ n < 32) else decide (-2048 ≤ n ∧ n < 2048))
  else if (k == 5) = true then decide (n % 2 = 0 ∧ -4096 ≤ n ∧ n < 4096)
  else if (k == 6) = true then decide (n % 4096 = 0 ∧ -2147483648 ≤ n ∧ n < 2147483648)
  else if (k == 7) = true then decide (n % 2 = 0 ∧ -1048576 ≤ n ∧ n < 1048576) else decide (n = 0)
def immZ (k s : Int) (w : Nat) : Int :=
  if (k == 2) = true ∨ (k == 3) = true then (if (s == 6) = true then ((w / 1048576 % 64 : Nat) : Int) else if (s == 5) = true then ((w / 1048576 % 32 : Nat) : Int) else sgI (w / 1048576 % 4096) 12)
  else if (k == 4) = true then sgI (w / 33554432 % 128 * 32 + w / 128 % 32) 12
  else if (k == 5) = true then sgI (w / 2147483648 % 2 * 4096 + w / 128 % 2 * 2048 + w / 33554432 % 64 * 32 + w / 256 % 16 * 2) 13
  else if (k == 6) = true then sgI (w / 4096 % 1048576 * 4096) 32
  else if (k == 7) = true then sgI (w / 2147483648 % 2 * 1048576 + w / 4096 % 256 * 4096 + w / 1048576 % 2 * 2048 + w / 2097152 % 1024 * 2) 21 else 0
def rdN (k : Int) (w : Nat) : Nat := if (hasZ k).1 = true then w / 128 % 32 else 0
def rs1N (k : Int) (w : Nat) : Nat := if (hasZ k).2.1 = true then w / 32768 % 32 else 0
def rs2N (k : Int) (w : Nat) : Nat := if (hasZ k).2.2 = true then w / 1048576 % 32 else 0
def encB (b rd rs1 rs2 : Nat) (n : Int) : Nat := encN 0 (kindZ b) b rd rs1 rs2 (n % 4294967296).toNat

theorem or7 (x r : Nat) (hr : r < 32) (hx : x / 128 % 32 = 0) : x ||| r * 128 = x + r * 128 := or_add x r 7 5 hr hx
theorem or15 (x r : Nat) (hr : r < 32) (hx : x / 32768 % 32 = 0) : x ||| r * 32768 = x + r * 32768 := or_add x r 15 5 hr hx
theorem or20 (x r : Nat) (hr : r < 32) (hx : x / 1048576 % 32 = 0) : x ||| r * 1048576 = x + r * 1048576 := or_add x r 20 5 hr hx
theorem or20s (x r : Nat) (hr : r < 64) (hx : x / 1048576 % 64 = 0) : x ||| r * 1048576 = x + r * 1048576 := or_add x r 20 6 hr hx
theorem or20l (x r : Nat) (hr : r < 4096) (hx : x / 1048576 % 4096 = 0) : x ||| r * 1048576 = x + r * 1048576 := or_add x r 20 12 hr hx
theorem or25 (x r : Nat) (hr : r < 128) (hx : x / 33554432 % 128 = 0) : x ||| r * 33554432 = x + r * 33554432 := or_add x r 25 7 hr hx
theorem or25s (x r : Nat) (hr : r < 64) (hx : x / 33554432 % 64 = 0) : x ||| r * 33554432 = x + r * 33554432 := or_add x r 25 6 hr hx
theorem or31 (x r : Nat) (hr : r < 2) (hx : x / 2147483648 % 2 = 0) : x ||| r * 2147483648 = x + r * 2147483648 := or_add x r 31 1 hr hx
theorem or8 (x r : Nat) (hr : r < 16) (hx : x / 256 % 16 = 0) : x ||| r * 256 = x + r * 256 := or_add x r 8 4 hr hx
theorem or71 (x r : Nat) (hr : r < 2) (hx : x / 128 % 2 = 0) : x ||| r * 128 = x + r * 128 := or_add x r 7 1 hr hx
theorem or12 (x r : Nat) (hr : r < 1048576) (hx : x / 4096 % 1048576 = 0) : x ||| r * 4096 = x + r * 4096 := or_add x r 12 20 hr hx
theorem or12s (x r : Nat) (hr : r < 256) (hx : x / 4096 % 256 = 0) : x ||| r * 4096 = x + r * 4096 := or_add x r 12 8 hr hx
theorem or201 (x r : Nat) (hr : r < 2) (hx : x / 1048576 % 2 = 0) : x ||| r * 1048576 = x + r * 1048576 := or_add x r 20 1 hr hx
theorem or21 (x r : Nat) (hr : r < 1024) (hx : x / 2097152 % 1024 = 0) : x ||| r * 2097152 = x + r * 2097152 := or_add x r 21 10 hr hx
theorem mask_two (x a b c : Nat) (h : 4294967295 - c = (4294967295 - a) &&& (4294967295 - b)) : x &&& (4294967295 - c) = (x &&& (4294967295 - a)) &&& (4294967295 - b) := by rw [h, Nat.and_assoc]
theorem not7 (x : Nat) (hx : x < 4294967296) : x &&& (4294967295 - 3968) = x - x / 128 % 32 * 128 := not_field x 7 5 hx (by decide)
theorem not15 (x : Nat) (hx : x < 4294967296) : x &&& (4294967295 - 1015808) = x - x / 32768 % 32 * 32768 := not_field x 15 5 hx (by decide)
theorem not20 (x : Nat) (hx : x < 4294967296) : x &&& (4294967295 - 32505856) = x - x / 1048576 % 32 * 1048576 := not_field x 20 5 hx (by decide)
theorem not20s (x : Nat) (hx : x < 4294967296) : x &&& (4294967295 - 66060288) = x - x / 1048576 % 64 * 1048576 := not_field x 20 6 hx (by decide)
theorem not15l (x : Nat) (hx : x < 4294967296) : x &&& (4294967295 - 4294934528) = x - x / 32768 % 131072 * 32768 := not_field x 15 17 hx (by decide)
theorem not7l (x : Nat) (hx : x < 4294967296) : x &&& (4294967295 - 4294967168) = x - x / 128 % 33554432 * 128 := not_field x 7 25 hx (by decide)
/-- registers 7 and 15 -/
theorem clr8 (x : Nat) (hx : x < 4294967296) : x &&& (4294967295 - 1019776) = x - x / 128 % 32 * 128 - x / 32768 % 32 * 32768 := by
  rw [mask_two x 3968 1015808 1019776 (by decide), not7 x hx, not15 _ (by omega)]; omega
theorem clr1 (x : Nat) (hx : x < 4294967296) : x &&& (4294967295 - 33525632) = x - x / 128 % 32 * 128 - x / 32768 % 32 * 32768 - x / 1048576 % 32 * 1048576 := by
  rw [mask_two x 1019776 32505856 33525632 (by decide), clr8 x hx, not20 _ (by omega)]; omega
theorem clr6 (x : Nat) (hx : x < 4294967296) : x &&& (4294967295 - 67080064) = x - x / 128 % 32 * 128 - x / 32768 % 32 * 32768 - x / 1048576 % 64 * 1048576 := by
  rw [mask_two x 1019776 66060288 67080064 (by decide), clr8 x hx, not20s _ (by omega)]; omega
theorem clr2 (x : Nat) (hx : x < 4294967296) : x &&& (4294967295 - 4294938496) = x % 32768 - x / 128 % 32 * 128 := by
  rw [mask_two x 4294934528 3968 4294938496 (by decide), not15l x hx, not7 _ (by omega)]; omega
theorem clr10 (x : Nat) (hx : x < 4294967296) : x &&& (4294967295 - 33521664) = x - x / 32768 % 32 * 32768 - x / 1048576 % 32 * 1048576 := by
  rw [mask_two x 1015808 32505856 33521664 (by decide), not15 x hx, not20 _ (by omega)]; omega
theorem clr0 (x : Nat) (hx : x < 4294967296) : x &&& (4294967295 - 0) = x := by
  have := not_field x 0 0 hx (by decide)
  simpa [Nat.mod_one] using this

def Back (b : Nat) : Prop := ∀ (rd rs1 rs2 : Nat) (n : Int), regsB (kindZ b) rd rs1 rs2 = true → immB (kindZ b) (shiftZ b) n = true →
  encB b rd rs1 rs2 n < 4294967296 ∧ hitB b (encB b rd rs1 rs2 n) = true ∧ rdN (kindZ b) (encB b rd rs1 rs2 n) = rd ∧ rs1N (kindZ b) (encB b rd rs1 rs2 n) = rs1 ∧ rs2N (kindZ b) (encB b rd rs1 rs2 n) = rs2 ∧ immZ (kindZ b) (shiftZ b) (encB b rd rs1 rs2 n) = n
def Again (b : Nat) : Prop := ∀ w : Nat, w < 4294967296 → hitB b w = true →
  regsB (kindZ b) (rdN (kindZ b) w) (rs1N (kindZ b) w) (rs2N (kindZ b) w) = true ∧ immB (kindZ b) (shiftZ b) (immZ (kindZ b) (shiftZ b) w) = true ∧ encB b (rdN (kindZ b) w) (rs1N (kindZ b) w) (rs2N (kindZ b) w) (immZ (kindZ b) (shiftZ b) w) = w
/-! The functions at each kind. -/
theorem ibN_2 (u : Nat) : ibN 2 u = u * 1048576 % 4294967296 := by unfold ibN; rw [if_pos (by decide)]
theorem ibN_3 (u : Nat) : ibN 3 u = u * 1048576 % 4294967296 := by unfold ibN; rw [if_neg (by decide), if_pos (by decide)]
theorem ibN_4 (u : Nat) : ibN 4 u = u / 32 % 128 * 33554432 ||| u % 32 * 128 := by unfold ibN; rw [if_neg (by decide), if_neg (by decide), if_pos (by decide)]
theorem ibN_5 (u : Nat) : ibN 5 u = ((u / 4096 % 2 * 2147483648 ||| u / 32 % 64 * 33554432) ||| u / 2 % 16 * 256) ||| u / 2048 % 2 * 128 := by unfold ibN; rw [if_neg (by decide), if_neg (by decide), if_neg (by decide), if_pos (by decide)]
theorem ibN_6 (u : Nat) : ibN 6 u = u := by unfold ibN; rw [if_neg (by decide), if_neg (by decide), if_neg (by decide), if_neg (by decide), if_pos (by decide)]
theorem ibN_7 (u : Nat) : ibN 7 u = ((u / 1048576 % 2 * 2147483648 ||| u / 2 % 1024 * 2097152) ||| u / 2048 % 2 * 1048576) ||| u / 4096 % 256 * 4096 := by unfold ibN; rw [if_neg (by decide), if_neg (by decide), if_neg (by decide), if_neg (by decide), if_neg (by decide), if_pos (by decide)]
theorem ibN_1 (u : Nat) : ibN 1 u = 0 := by unfold ibN; rw [if_neg (by decide), if_neg (by decide), if_neg (by decide), if_neg (by decide), if_neg (by decide), if_neg (by decide)]
theorem ibN_8 (u : Nat) : ibN 8 u = 0 := by unfold ibN; rw [if_neg (by decide), if_neg (by decide), if_neg (by decide), if_neg (by decide), if_neg (by decide), if_neg (by decide)]
theorem ibN_9 (u : Nat) : ibN 9 u = 0 := by unfold ibN; rw [if_neg (by decide), if_neg (by decide), if_neg (by decide), if_neg (by decide), if_neg (by decide), if_neg (by decide)]
theorem ibN_10 (u : Nat) : ibN 10 u = 0 := by unfold ibN; rw [if_neg (by decide), if_neg (by decide), if_neg (by decide), if_neg (by decide), if_neg (by decide), if_neg (by decide)]
theorem immZ_2_0 (w : Nat) : immZ 2 0 w = sgI (w / 1048576 % 4096) 12 := by unfold immZ; rw [if_pos (by decide), if_neg (by decide), if_neg (by decide)]
theorem immZ_2_6 (w : Nat) : immZ 2 6 w = ((w / 1048576 % 64 : Nat) : Int) := by unfold immZ; rw [if_pos (by decide), if_pos (by decide)]
theorem immZ_2_5 (w : Nat) : immZ 2 5 w = ((w / 1048576 % 32 : Nat) : Int) := by unfold immZ; rw [if_pos (by decide), if_neg (by decide), if_pos (by decide)]
theorem immZ_3_0 (w : Nat) : immZ 3 0 w = sgI (w / 1048576 % 4096) 12 := by unfold immZ; rw [if_pos (by decide), if_neg (by decide), if_neg (by decide)]
theorem immZ_3_6 (w : Nat) : immZ 3 6 w = ((w / 1048576 % 64 : Nat) : Int) := by unfold immZ; rw [if_pos (by decide), if_pos (by decide)]
theorem immZ_3_5 (w : Nat) : immZ 3 5 w = ((w / 1048576 % 32 : Nat) : Int) := by unfold immZ; rw [if_pos (by decide), if_neg (by decide), if_pos (by decide)]
theorem immZ_4 (s : Int) (w : Nat) : immZ 4 s w = sgI (w / 33554432 % 128 * 32 + w / 128 % 32) 12 := by unfold immZ; rw [if_neg (by decide), if_pos (by decide)]
theorem immZ_5 (s : Int) (w : Nat) : immZ 5 s w = sgI (w / 2147483648 % 2 * 4096 + w / 128 % 2 * 2048 + w / 33554432 % 64 * 32 + w / 256 % 16 * 2) 13 := by unfold immZ; rw [if_neg (by decide), if_neg (by decide), if_pos (by decide)]
theorem immZ_6 (s : Int) (w : Nat) : immZ 6 s w = sgI (w / 4096 % 1048576 * 4096) 32 := by unfold immZ; rw [if_neg (by decide), if_neg (by decide), if_neg (by decide), if_pos (by decide)]
theorem immZ_7 (s : Int) (w : Nat) : immZ 7 s w = sgI (w / 2147483648 % 2 * 1048576 + w / 4096 % 256 * 4096 + w / 1048576 % 2 * 2048 + w / 2097152 % 1024 * 2) 21 := by unfold immZ; rw [if_neg (by decide), if_neg (by decide), if_neg (by decide), if_neg (by decide), if_pos (by decide)]
theorem immZ_1 (s : Int) (w : Nat) : immZ 1 s w = 0 := by unfold immZ; rw [if_neg (by decide), if_neg (by decide), if_neg (by decide), if_neg (by decide), if_neg (by decide)]
theorem immZ_8 (s : Int) (w : Nat) : immZ 8 s w = 0 := by unfold immZ; rw [if_neg (by decide), if_neg (by decide), if_neg (by decide), if_neg (by decide), if_neg (by decide)]
theorem immZ_9 (s : Int) (w : Nat) : immZ 9 s w = 0 := by unfold immZ; rw [if_neg (by decide), if_neg (by decide), if_neg (by decide), if_neg (by decide), if_neg (by decide)]
theorem immZ_10 (s : Int) (w : Nat) : immZ 10 s w = 0 := by unfold immZ; rw [if_neg (by decide), if_neg (by decide), if_neg (by decide), if_neg (by decide), if_neg (by decide)]
theorem hasZ_1 : hasZ 1 = (true, true, true) := by decide
theorem rdN_1 (w : Nat) : rdN 1 w = w / 128 % 32 := by unfold rdN; rw [hasZ_1]; exact if_pos rfl
theorem rs1N_1 (w : Nat) : rs1N 1 w = w / 32768 % 32 := by unfold rs1N; rw [hasZ_1]; exact if_pos rfl
theorem rs2N_1 (w : Nat) : rs2N 1 w = w / 1048576 % 32 := by unfold rs2N; rw [hasZ_1]; exact if_pos rfl
theorem hasZ_2 : hasZ 2 = (true, true, false) := by decide
theorem rdN_2 (w : Nat) : rdN 2 w = w / 128 % 32 := by unfold rdN; rw [hasZ_2]; exact if_pos rfl
theorem rs1N_2 (w : Nat) : rs1N 2 w = w / 32768 % 32 := by unfold rs1N; rw [hasZ_2]; exact if_pos rfl
theorem rs2N_2 (w : Nat) : rs2N 2 w = 0 := by unfold rs2N; rw [hasZ_2]; exact if_neg (by decide)
theorem hasZ_3 : hasZ 3 = (true, true, false) := by decide
theorem rdN_3 (w : Nat) : rdN 3 w = w / 128 % 32 := by unfold rdN; rw [hasZ_3]; exact if_pos rfl
theorem rs1N_3 (w : Nat) : rs1N 3 w = w / 32768 % 32 := by unfold rs1N; rw [hasZ_3]; exact if_pos rfl
theorem rs2N_3 (w : Nat) : rs2N 3 w = 0 := by unfold rs2N; rw [hasZ_3]; exact if_neg (by decide)
theorem hasZ_8 : hasZ 8 = (true, true, false) := by decide
theorem rdN_8 (w : Nat) : rdN 8 w = w / 128 % 32 := by unfold rdN; rw [hasZ_8]; exact if_pos rfl
theorem rs1N_8 (w : Nat) : rs1N 8 w = w / 32768 % 32 := by unfold rs1N; rw [hasZ_8]; exact if_pos rfl
theorem rs2N_8 (w : Nat) : rs2N 8 w = 0 := by unfold rs2N; rw [hasZ_8]; exact if_neg (by decide)
theorem hasZ_4 : hasZ 4 = (false, true, true) := by decide
theorem rdN_4 (w : Nat) : rdN 4 w = 0 := by unfold rdN; rw [hasZ_4]; exact if_neg (by decide)
theorem rs1N_4 (w : Nat) : rs1N 4 w = w / 32768 % 32 := by unfold rs1N; rw [hasZ_4]; exact if_pos rfl
theorem rs2N_4 (w : Nat) : rs2N 4 w = w / 1048576 % 32 := by unfold rs2N; rw [hasZ_4]; exact if_pos rfl
theorem hasZ_5 : hasZ 5 = (false, true, true) := by decide
theorem rdN_5 (w : Nat) : rdN 5 w = 0 := by unfold rdN; rw [hasZ_5]; exact if_neg (by decide)
theorem rs1N_5 (w : Nat) : rs1N 5 w = w / 32768 % 32 := by unfold rs1N; rw [hasZ_5]; exact if_pos rfl
theorem rs2N_5 (w : Nat) : rs2N 5 w = w / 1048576 % 32 := by unfold rs2N; rw [hasZ_5]; exact if_pos rfl
theorem hasZ_10 : hasZ 10 = (false, true, true) := by decide
theorem rdN_10 (w : Nat) : rdN 10 w = 0 := by unfold rdN; rw [hasZ_10]; exact if_neg (by decide)
theorem rs1N_10 (w : Nat) : rs1N 10 w = w / 32768 % 32 := by unfold rs1N; rw [hasZ_10]; exact if_pos rfl
theorem rs2N_10 (w : Nat) : rs2N 10 w = w / 1048576 % 32 := by unfold rs2N; rw [hasZ_10]; exact if_pos rfl
theorem hasZ_6 : hasZ 6 = (true, false, false) := by decide
theorem rdN_6 (w : Nat) : rdN 6 w = w / 128 % 32 := by unfold rdN; rw [hasZ_6]; exact if_pos rfl
theorem rs1N_6 (w : Nat) : rs1N 6 w = 0 := by unfold rs1N; rw [hasZ_6]; exact if_neg (by decide)
theorem rs2N_6 (w : Nat) : rs2N 6 w = 0 := by unfold rs2N; rw [hasZ_6]; exact if_neg (by decide)
theorem hasZ_7 : hasZ 7 = (true, false, false) := by decide
theorem rdN_7 (w : Nat) : rdN 7 w = w / 128 % 32 := by unfold rdN; rw [hasZ_7]; exact if_pos rfl
theorem rs1N_7 (w : Nat) : rs1N 7 w = 0 := by unfold rs1N; rw [hasZ_7]; exact if_neg (by decide)
theorem rs2N_7 (w : Nat) : rs2N 7 w = 0 := by unfold rs2N; rw [hasZ_7]; exact if_neg (by decide)
theorem hasZ_9 : hasZ 9 = (false, false, false) := by decide
theorem rdN_9 (w : Nat) : rdN 9 w = 0 := by unfold rdN; rw [hasZ_9]; exact if_neg (by decide)
theorem rs1N_9 (w : Nat) : rs1N 9 w = 0 := by unfold rs1N; rw [hasZ_9]; exact if_neg (by decide)
theorem rs2N_9 (w : Nat) : rs2N 9 w = 0 := by unfold rs2N; rw [hasZ_9]; exact if_neg (by decide)
theorem fit_yes (r : Nat) : fitB r true = decide (r < 32) := by
  unfold fitB
  by_cases h0 : r = 0
  · subst h0; simp
  · rw [if_neg (by simp; omega), if_pos rfl, decide_eq_true (by omega), if_pos rfl]; simp; omega
theorem fit_no (r : Nat) : fitB r false = decide (r = 0) := by
  unfold fitB
  by_cases h0 : r = 0
  · subst h0; simp
  · rw [if_neg (by simp; omega), if_neg (by decide)]; simp [h0]
end Go.Proofs.YtegoddghfjfibaaGreatDoor.Is

namespace Go.Proofs.YtegoddghfjfibaaGreatDoor.Is
set_option linter.unusedVariables false
set_option linter.unusedSimpArgs false
open Go.Joins Go.ChangeShapes Go.WideShapes Go.ChangeAt Go.RowKit

theorem boxed {w W' : World} {cs : Array Value} {t : TypeId} (h : Below (w.alloc (.cells cs t)).heap.size (w.alloc (.cells cs t)) W') (j : Nat) : W'.cell? ⟨w.heap.size, j, none⟩ = cs[j]? := by
  rw [h.cell (p := ⟨w.heap.size, j, none⟩) (by rw [size_alloc]; exact Nat.lt_succ_self _)]
  exact cell_of_row _ _ j cs t (0, 0) (heap_alloc_new w _)
theorem boxedF {w W' : World} {cs : Array Value} {t : TypeId} (h : Below (w.alloc (.cells cs t)).heap.size (w.alloc (.cells cs t)) W') (j : Nat) : W'.frozen? ⟨w.heap.size, j, none⟩ = false := by
  have hb := h.block w.heap.size (by rw [size_alloc]; exact Nat.lt_succ_self _)
  have : W'.heap[w.heap.size]? = some (.cells cs t) := by
    rw [hb]; exact heap_alloc_new w _
  unfold World.frozen?
  simp [this]
theorem quiet_below {B : Nat} {w w' : World} (h : Quiet w w') : Below B w w' := by
  obtain ⟨n, rfl⟩ := h; exact ⟨rfl, rfl, rfl, Nat.le_refl _, fun _ _ => rfl⟩

theorem field_any (x : Nat) (f m : Int) (w : World) (hx : x < 4294967296) (h0 : 0 ≤ f) (h1 : 1 ≤ m) (h2 : f + m ≤ 32) :
    Calls Tryz.prog 176 #[.int .u32 (x : Int), .int .i64 f, .int .i64 m] w fun e w' => e = .returned (.int .u32 ((x / 2 ^ f.toNat % 2 ^ m.toNat : Nat) : Int)) ∧ Below w.heap.size w w' := by
  have hv : bitsZ (x : Int) f m % 4294967296 = ((x / 2 ^ f.toNat % 2 ^ m.toNat : Nat) : Int) := by
    unfold bitsZ
    rw [if_neg (by omega), Int.toNat_natCast]
    unfold bitsN
    have hl : x / 2 ^ f.toNat % 2 ^ m.toNat < 4294967296 := Nat.lt_of_le_of_lt (Nat.mod_le _ _) (Nat.lt_of_le_of_lt (Nat.div_le_self _ _) hx)
    omega
  have HV := Lib.hid hv
  clear hv
  go_enter Tryz.func176, Tryz.ntmps176
  go_wp2_with fail
  refine (bits_any _ _ _ _ (by omega) (by omega)).mono ?_; rintro e w' ⟨rfl, hq⟩
  go_wp2_with fail
  go_ret
  exact ⟨ret_int HV.out, quiet_below hq⟩
theorem and127 (x : Nat) (hx : x < 4294967296) : bits .and .u32 (x : Int) 127 = ((x % 128 : Nat) : Int) := by
  have := u32_and_nat x 127 hx (by decide)
  rw [show ((127 : Nat) : Int) = 127 from rfl, nat_mask7] at this
  exact this
theorem code_any (x : Nat) (w : World) (hx : x < 4294967296) :
    Calls Tryz.prog 132 #[.int .u32 (x : Int)] w fun e w' => e = .returned (.int .u32 ((x % 128 : Nat) : Int)) ∧ w = w' := by
  go_enter Tryz.func132, Tryz.ntmps132
  go_wp2_with fail
  go_ret
  exact ⟨ret_int (and127 x hx), rfl⟩
theorem kindOfCap_any (x : Nat) (w : World) (hx : x < 4294967296) :
    Calls Tryz.prog 178 #[.int .u32 (x : Int)] w fun e w' => e = .returned (.int .i64 (kindC ((x / 33554432 % 128 : Nat) : Int))) ∧ Below w.heap.size w w' := by
  obtain ⟨f, hf⟩ : ∃ v, ((x / 33554432 % 128 : Nat) : Int) = v := ⟨_, rfl⟩
  rw [hf]
  have HF := Lib.hid hf
  clear hf
  go_enter Tryz.func178, Tryz.ntmps178
  go_wp2_with fail
  refine (field_any _ _ _ _ hx (by decide) (by decide) (by decide)).mono ?_; rintro e w' ⟨rfl, hq⟩
  rw [show x / 2 ^ (25 : Int).toNat % 2 ^ (7 : Int).toNat = x / 33554432 % 128 from rfl, HF.out]
  have HB := Lib.hid hq
  clear hq
  go_wp2_with fail
  all_goals exact bodyPost_ret (v := .int .i64 (kindC f)) (by simp [results, Tryz.results178, go_sem, kindC, *]) rfl ⟨rfl, HB.out⟩
theorem kindOf_any (x : Nat) (w : World) (hx : x < 4294967296) :
    Calls Tryz.prog 137 #[.int .u32 (x : Int)] w fun e w' => e = .returned (.int .i64 (kindZ x)) ∧ Below w.heap.size w w' := by
  have hk := fun w => kindOfCap_any x w hx
  unfold kindZ
  obtain ⟨c, hc⟩ : ∃ v, ((x % 128 : Nat) : Int) = v := ⟨_, rfl⟩
  obtain ⟨f, hf⟩ : ∃ v, ((x / 33554432 % 128 : Nat) : Int) = v := ⟨_, rfl⟩
  rw [hc, hf]
  rw [hf] at hk
  have HK := Lib.hid hk
  have HC := Lib.hid hc
  clear hk hc hf
  go_enter Tryz.func137, Tryz.ntmps137
  go_wp2_with fail
  refine (code_any _ _ hx).mono ?_; rintro e w' ⟨rfl, rfl⟩
  rw [HC.out]
  go_wp2_with (go_at_call 178; refine (HK.out _).mono ?_; rintro e w' ⟨rfl, hq⟩; have HB := Lib.hid hq; clear hq)
  all_goals first
    | exact bodyPost_ret (v := .int .i64 (kindD c f)) (by simp [results, Tryz.results137, go_sem, kindD, *]) rfl ⟨rfl, HB.out⟩
    | exact bodyPost_ret (v := .int .i64 (kindD c f)) (by simp [results, Tryz.results137, go_sem, kindD, *]) rfl ⟨rfl, Below.refl _ _⟩
theorem shift_any (x : Nat) (w : World) (hx : x < 4294967296) :
    Calls Tryz.prog 173 #[.int .u32 (x : Int)] w fun e w' => e = .returned (.int .i64 (shiftZ x)) ∧ Below w.heap.size w w' := by
  have hk := fun w => code_any x w hx
  unfold shiftZ
  obtain ⟨c, hc⟩ : ∃ v, ((x % 128 : Nat) : Int) = v := ⟨_, rfl⟩
  obtain ⟨f, hf⟩ : ∃ v, ((x / 4096 % 8 : Nat) : Int) = v := ⟨_, rfl⟩
  rw [hc, hf]
  rw [hc] at hk
  have HK := Lib.hid hk
  have HF := Lib.hid hf
  clear hk hc hf
  go_enter Tryz.func173, Tryz.ntmps173
  go_wp2_with fail
  refine (field_any _ _ _ _ hx (by decide) (by decide) (by decide)).mono ?_; rintro e w' ⟨rfl, hq⟩
  rw [show x / 2 ^ (12 : Int).toNat % 2 ^ (3 : Int).toNat = x / 4096 % 8 from rfl, HF.out]
  have HB := Lib.hid hq
  clear hq
  go_wp2_with (go_at_call 132; refine (HK.out _).mono ?_; rintro e w' ⟨rfl, rfl⟩)
  all_goals (refine bodyPost_ret (v := .int .i64 (shiftD c f)) ?_ rfl ⟨rfl, HB.out⟩)
  all_goals first
    | (simp [results, Tryz.results173, go_sem, shiftD, *]; done)
    | (clear HK HF HB; simp [results, Tryz.results173, go_sem, shiftD, *]; simp_all; done)
theorem has_any (k : Int) (w : World) :
    Calls Tryz.prog 175 #[.int .i64 k] w fun e w' => e = .returned (.tuple #[.bool (hasZ k).1, .bool (hasZ k).2.1, .bool (hasZ k).2.2]) ∧ w = w' := by
  go_enter Tryz.func175, Tryz.ntmps175
  go_wp2_with fail
  all_goals exact bodyPost_ret (v := .tuple #[.bool (hasZ k).1, .bool (hasZ k).2.1, .bool (hasZ k).2.2]) (by simp [results, Tryz.results175, go_sem, hasZ, *]) rfl ⟨rfl, rfl⟩
end Go.Proofs.YtegoddghfjfibaaGreatDoor.Is

namespace Go.Proofs.YtegoddghfjfibaaGreatDoor.Is
set_option linter.unusedVariables false
set_option linter.unusedSimpArgs false
open Go.Joins Go.ChangeShapes Go.WideShapes Go.ChangeAt Go.RowKit

theorem signed12 (x : Nat) (hx : x < 4096) : wrap64 (signZ (x : Int) 12) = sgI x 12 := by
  unfold signZ sgI
  rw [if_neg (by decide), show (12 : Int).toNat = 12 from rfl, Int.toNat_natCast]
  unfold sgN
  simp only [show (2 : Nat) ^ 12 = 4096 by decide, show (2 : Nat) ^ (12 - 1) = 2048 by decide, show (2 : Int) ^ 12 = 4096 by decide, wrap64]
  split <;> split <;> omega
theorem sign12_any (x : Nat) (w : World) (hx : x < 4096) :
    Calls Tryz.prog 196 #[.int .u32 (x : Int), .int .i64 12] w fun e w' => e = .returned (.int .i64 (sgI x 12)) ∧ w = w' := by
  have HV := Lib.hid (signed12 x hx)
  go_enter Tryz.func196, Tryz.ntmps196
  go_wp2_with fail
  refine (sign_any _ _ _ (by omega)).mono ?_; rintro e w' ⟨rfl, rfl⟩
  go_wp2_with fail
  go_ret
  exact ⟨ret_int HV.out, rfl⟩
theorem signed13 (x : Nat) (hx : x < 8192) : wrap64 (signZ (x : Int) 13) = sgI x 13 := by
  unfold signZ sgI
  rw [if_neg (by decide), show (13 : Int).toNat = 13 from rfl, Int.toNat_natCast]
  unfold sgN
  simp only [show (2 : Nat) ^ 13 = 8192 by decide, show (2 : Nat) ^ (13 - 1) = 4096 by decide, show (2 : Int) ^ 13 = 8192 by decide, wrap64]
  split <;> split <;> omega
theorem sign13_any (x : Nat) (w : World) (hx : x < 8192) :
    Calls Tryz.prog 196 #[.int .u32 (x : Int), .int .i64 13] w fun e w' => e = .returned (.int .i64 (sgI x 13)) ∧ w = w' := by
  have HV := Lib.hid (signed13 x hx)
  go_enter Tryz.func196, Tryz.ntmps196
  go_wp2_with fail
  refine (sign_any _ _ _ (by omega)).mono ?_; rintro e w' ⟨rfl, rfl⟩
  go_wp2_with fail
  go_ret
  exact ⟨ret_int HV.out, rfl⟩
theorem signed21 (x : Nat) (hx : x < 2097152) : wrap64 (signZ (x : Int) 21) = sgI x 21 := by
  unfold signZ sgI
  rw [if_neg (by decide), show (21 : Int).toNat = 21 from rfl, Int.toNat_natCast]
  unfold sgN
  simp only [show (2 : Nat) ^ 21 = 2097152 by decide, show (2 : Nat) ^ (21 - 1) = 1048576 by decide, show (2 : Int) ^ 21 = 2097152 by decide, wrap64]
  split <;> split <;> omega
theorem sign21_any (x : Nat) (w : World) (hx : x < 2097152) :
    Calls Tryz.prog 196 #[.int .u32 (x : Int), .int .i64 21] w fun e w' => e = .returned (.int .i64 (sgI x 21)) ∧ w = w' := by
  have HV := Lib.hid (signed21 x hx)
  go_enter Tryz.func196, Tryz.ntmps196
  go_wp2_with fail
  refine (sign_any _ _ _ (by omega)).mono ?_; rintro e w' ⟨rfl, rfl⟩
  go_wp2_with fail
  go_ret
  exact ⟨ret_int HV.out, rfl⟩
theorem signed32 (x : Nat) (hx : x < 4294967296) : wrap64 (signZ (x : Int) 32) = sgI x 32 := by
  unfold signZ sgI
  rw [if_neg (by decide), show (32 : Int).toNat = 32 from rfl, Int.toNat_natCast]
  unfold sgN
  simp only [show (2 : Nat) ^ 32 = 4294967296 by decide, show (2 : Nat) ^ (32 - 1) = 2147483648 by decide, show (2 : Int) ^ 32 = 4294967296 by decide, wrap64]
  split <;> split <;> omega
theorem sign32_any (x : Nat) (w : World) (hx : x < 4294967296) :
    Calls Tryz.prog 196 #[.int .u32 (x : Int), .int .i64 32] w fun e w' => e = .returned (.int .i64 (sgI x 32)) ∧ w = w' := by
  have HV := Lib.hid (signed32 x hx)
  go_enter Tryz.func196, Tryz.ntmps196
  go_wp2_with fail
  refine (sign_any _ _ _ (by omega)).mono ?_; rintro e w' ⟨rfl, rfl⟩
  go_wp2_with fail
  go_ret
  exact ⟨ret_int HV.out, rfl⟩
theorem tmod_zero (n m : Int) : (n.tmod m == 0) = (n % m == 0) := by
  rw [Bool.eq_iff_iff, beq_iff_eq, beq_iff_eq, ← Int.dvd_iff_tmod_eq_zero, ← Int.dvd_iff_emod_eq_zero]
/-- the kinds that a function asks for, one after the other -/
theorem kinds {P : Int → Prop} (k : Int) (h2 : P 2) (h3 : P 3) (h4 : P 4) (h5 : P 5) (h6 : P 6) (h7 : P 7)
    (ho : ∀ k : Int, (k == 2) = false → (k == 3) = false → (k == 4) = false → (k == 5) = false → (k == 6) = false → (k == 7) = false → P k) : P k := by
  by_cases e2 : k = 2; · subst e2; exact h2
  by_cases e3 : k = 3; · subst e3; exact h3
  by_cases e4 : k = 4; · subst e4; exact h4
  by_cases e5 : k = 5; · subst e5; exact h5
  by_cases e6 : k = 6; · subst e6; exact h6
  by_cases e7 : k = 7; · subst e7; exact h7
  exact ho k (beq_false_of_ne e2) (beq_false_of_ne e3) (beq_false_of_ne e4) (beq_false_of_ne e5) (beq_false_of_ne e6) (beq_false_of_ne e7)
end Go.Proofs.YtegoddghfjfibaaGreatDoor.Is

namespace Go.Proofs.YtegoddghfjfibaaGreatDoor.Is
set_option linter.unusedVariables false
set_option linter.unusedSimpArgs false
open Go.Joins Go.ChangeShapes Go.WideShapes Go.ChangeAt Go.RowKit

theorem u32or (a b : Nat) (ha : a < 4294967296) (hb : b < 4294967296) : bits .or .u32 (a : Int) (b : Int) = ((a ||| b : Nat) : Int) := u32_or_nat a b ha hb
def FAt (u f m A B : Nat) : Prop := ∀ w : World, Calls Tryz.prog 176 #[.int .u32 (u : Int), .int .i64 (f : Int), .int .i64 (m : Int)] w fun e w' => e = .returned (.int .u32 ((u / A % B : Nat) : Int)) ∧ Below w.heap.size w w'
theorem f_at (u f m : Nat) (A B : Nat) (hu : u < 4294967296) (h1 : 1 ≤ m) (h2 : f + m ≤ 32) (hA : 2 ^ f = A) (hB : 2 ^ m = B) : FAt u f m A B := by
  intro w
  have h := field_any u f m w hu (by omega) (by omega) (by omega)
  rw [Int.toNat_natCast, Int.toNat_natCast, hA, hB] at h
  exact h
end Go.Proofs.YtegoddghfjfibaaGreatDoor.Is

