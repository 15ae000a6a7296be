/- Plain mathematics of a word's bytes. No program is named here. -/
import Derived.Test.YtdpmihlmfephiaaGreatDoorWm
import Derived.Laws.MakeOwn
namespace Go.Proofs.YtdpmihlmfephiaaGreatDoor
set_option linter.unusedVariables false
set_option linter.unusedSimpArgs false
open Go Go.RowKit

/-! Bytes. -/
def u8s (l : List Nat) : List Value := l.map fun (b : Nat) => Value.int .u8 (b : Int)
theorem u8s_length (l : List Nat) : (u8s l).length = l.length := by simp [u8s]
theorem u8s_get (l : List Nat) (k : Nat) (h : k < l.length) : (u8s l)[k]? = some (.int .u8 ((l[k] : Nat) : Int)) := by simp [u8s, h]
def ofN : List Nat → Nat
  | [] => 0
  | b :: r => b + 256 * ofN r
theorem ofN_snoc (l : List Nat) (b : Nat) : ofN (l ++ [b]) = ofN l + 2 ^ (8 * l.length) * b := by
  induction l with
  | nil => simp [ofN]
  | cons c r ih =>
    simp only [List.cons_append, ofN, ih, List.length_cons]
    rw [show 8 * (r.length + 1) = 8 + 8 * r.length by omega, Nat.pow_add, show (2 : Nat) ^ 8 = 256 from rfl, Nat.mul_add, Nat.mul_assoc]
    omega
theorem ofN_lt (l : List Nat) (h : ∀ b ∈ l, b < 256) : ofN l < 2 ^ (8 * l.length) := by
  induction l with
  | nil => simp [ofN]
  | cons c r ih =>
    have h1 := ih fun b hb => h b (List.mem_cons_of_mem _ hb)
    have h2 := h c List.mem_cons_self
    simp only [ofN, List.length_cons]
    rw [show 8 * (r.length + 1) = 8 + 8 * r.length by omega, Nat.pow_add, show (2 : Nat) ^ 8 = 256 from rfl]
    omega
theorem take_snoc {α : Type} (l : List α) (k : Nat) (h : k < l.length) : l.take (k + 1) = l.take k ++ [l[k]] := by
  rw [List.take_succ_eq_append_getElem h]
def ofB (l : List Nat) : Nat := ofN (l.take 8)
theorem of_step (l : List Nat) (k : Nat) (h : ∀ b ∈ l, b < 256) (hk : k < l.length) (h8 : k < 8) :
    bits .or .u64 ((ofN (l.take k) : Nat) : Int) (IntKind.u64.wrap (((l[k] : Nat) : Int) * 2 ^ (8 * k))) = ((ofN (l.take (k + 1)) : Nat) : Int) := by
  have hb := h l[k] (List.getElem_mem hk)
  have hl : (l.take k).length = k := by rw [List.length_take]; omega
  have ha := ofN_lt (l.take k) fun b hb => h b (List.mem_of_mem_take hb)
  rw [take_snoc l k hk, ofN_snoc]
  rw [hl] at ha ⊢
  have hp := pow_le64 (k := 8 * k + 8) (by omega)
  rw [Nat.pow_add] at hp
  have hm : 2 ^ (8 * k) * l[k] < 18446744073709551616 := by
    have : 2 ^ (8 * k) * (l[k] + 1) ≤ 2 ^ (8 * k) * 2 ^ 8 := Nat.mul_le_mul_left _ (by omega)
    have := pow_pos' (8 * k)
    rw [Nat.mul_add] at *
    omega
  have hq := pow_le64 (k := 8 * k) (by omega)
  rw [pow_cast, ← Int.natCast_mul, Nat.mul_comm, wrap_nat _ hm, u64_or_nat _ _ (by omega) hm, Nat.or_comm, Nat.add_comm]
  exact congrArg _ (nat_join (8 * k) _ _ (by simp) ha)
def byteN (w i : Nat) : Nat := w / 2 ^ (8 * i) % 256
def littleN (w n : Nat) : List Nat := (List.range n).map (byteN w)
def littleZ (w n : Int) : List Nat := if n < 1 ∨ 8 < n then [] else littleN w.toNat n.toNat
theorem byte_form (w i : Nat) : (w : Int) / 2 ^ (8 * i) % 256 = ((byteN w i : Nat) : Int) := by
  rw [ediv_nat]; unfold byteN; omega
theorem byte_bits (w i : Nat) (h : i < 8) : bitsZ (w : Int) (8 * (i : Int)) 8 = ((byteN w i : Nat) : Int) := by
  unfold bitsZ byteN bitsN
  rw [if_neg (by omega), Int.toNat_natCast, show (8 * (i : Int)).toNat = 8 * i by omega]
  rfl
theorem byte_lt (w i : Nat) : byteN w i < 256 := Nat.mod_lt _ (by decide)
theorem littleN_length (w n : Nat) : (littleN w n).length = n := by simp [littleN]
theorem size_made1 (z : Value) (n : Nat) : (madeCells #[z] n).size = n := size_madeCells _ _
theorem ne_bool (a b : Nat) : ((a : Int) != (b : Int)) = decide (a ≠ b) := by rw [Bool.eq_iff_iff, bne_iff_ne, decide_eq_true_iff]; omega
/-- the row while it is filled: k bytes laid, the others 0 -/
def fillN (w n k : Nat) : List Value := (List.range n).map fun j => .int .u8 (if j < k then ((byteN w j : Nat) : Int) else 0)
theorem fill_start (w n : Nat) : fillN w n 0 = List.replicate n (.int .u8 0) := by
  apply List.ext_getElem
  · simp [fillN]
  · intro i h1 h2; simp [fillN]
theorem fill_step (w n k : Nat) (h : k < n) : (fillN w n k).set k (.int .u8 ((byteN w k : Nat) : Int)) = fillN w n (k + 1) := by
  apply List.ext_getElem
  · simp [fillN]
  · intro i h1 h2
    rw [List.getElem_set]
    by_cases hi : k = i
    · subst hi; simp [fillN]
    · rw [if_neg hi]
      simp only [fillN, List.getElem_map, List.getElem_range]
      by_cases h3 : i < k
      · rw [if_pos h3, if_pos (by omega)]
      · rw [if_neg h3, if_neg (by omega)]
theorem fill_end (w n : Nat) : fillN w n n = u8s (littleN w n) := by
  apply List.ext_getElem
  · simp [fillN, u8s, littleN]
  · intro i h1 h2
    have : i < n := by simpa [fillN] using h1
    simp [fillN, u8s, littleN, this]
theorem littleN_snoc (w n : Nat) : littleN w (n + 1) = littleN w n ++ [byteN w n] := by simp [littleN, List.range_succ]
end Go.Proofs.YtdpmihlmfephiaaGreatDoor
