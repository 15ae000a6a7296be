/- The chapter's examples hold. -/
import Derived.Test.YtidnojjhchmmgaaCeQ
namespace Go.Proofs.Ytidnojjhchmmgaa
set_option linter.unusedVariables false
set_option linter.unusedSimpArgs false
open Go.Joins Go.ChangeShapes Go.WideShapes Go.ChangeAt Go.RowKit Go.Deep

def emptyL : List UInt8 := [67, 69, 76, 70, 1, 1, 97, 0, 0, 0, 0, 0, 0, 0, 0, 0, 0, 0, 0]
theorem em_0 : (parseF emptyL).2 = 0 ∧ (parseF emptyL).1.name = [97] ∧ (parseF emptyL).1.needs = [] := by decide +kernel
theorem em_1 : (parseF (emptyL ++ [0])).2 = 102 := by decide +kernel
theorem em_2 : (parseF (emptyL.take 18)).2 = 101 := by decide +kernel
theorem em_3 : (parseF []).2 = 100 := by decide +kernel
theorem em_4 : (parseF [67, 69, 76, 70, 2]).2 = 100 := by decide +kernel
theorem lit_own (w : World) (l : List UInt8) (n : Nat) (hn : l.length = n) (hm : n ≤ 1000) (cs : Array Value) (hcs : cs = (u8v l).toArray) : (w.alloc (.cells cs 5)).ownsRow w.heap.size 5 1 (.slice (some ⟨w.heap.size, 0, none⟩) n n) n (u8v l) := by
  subst hcs
  have h := World.ownsRow_lit (base := w.heap.size) (e := 5) (size := 1) w (u8v l).toArray n (Nat.le_refl _) (by unfold maxLen; omega) (by simp [u8v, hn])
  simpa using h
theorem rd_own1 {w : World} {B n c : Nat} {a : Option Addr} {l : List UInt8} (h : w.ownsRow B 5 1 (.slice a n c) n (u8v l)) : Rd w a n (u8v l) := Rd.of_own h
def seg1 : Seg := ⟨256, 10, 0, [], none, 0⟩
theorem at_lit (w : World) (n : Int) (hn : u64B n) (q : Int) (hq : atF [seg1] 256 n = q) :
    Calls Try.prog 39 #[.agg #[.string ⟨#[]⟩, .slice none 0 0, .slice (some ⟨w.heap.size, 0, none⟩) 1 1, .slice none 0 0, .slice none 0 0, .slice none 0 0, .slice none 0 0], .int .u64 256, .int .u64 n] (w.alloc (.cells #[.int .u64 256, .int .u64 10, .int .i64 0, .slice none 0 0] 61)) fun e w' => e = .returned (.int .i64 q) ∧ Below (w.alloc (.cells #[.int .u64 256, .int .u64 10, .int .i64 0, .slice none 0 0] 61)).heap.size (w.alloc (.cells #[.int .u64 256, .int .u64 10, .int .i64 0, .slice none 0 0] 61)) w' := by
  rw [← hq]
  exact at_any _ _ _ _ _ _ (some ⟨w.heap.size, 0, none⟩) 1 1 [seg1] 256 n _ rfl (Rd.lit w #[.int .u64 256, .int .u64 10, .int .i64 0, .slice none 0 0] 61 (by show 4 ≤ maxLen; decide)) (by decide) (by simp [seg1, u64B]) (by simp [u64B]) hn
theorem grownB {w w1 w2 : World} {row : Option Nat} (h : Below w.heap.size w w1) (hg : w1.grownBy w2 row) (hr : ∀ q, row = some q → w.heap.size ≤ q) : Below w.heap.size w w2 :=
  h.trans ⟨hg.os, hg.tape, hg.output, hg.size, fun k hk => hg.block k (Nat.lt_of_lt_of_le hk h.size) (fun e => by have := hr k e.symm; omega)⟩
theorem rd_take8 {w : World} {a : Option Addr} {n : Nat} {l : List UInt8} (h : Rd w a n (u8v l)) (k : Nat) (hk : k ≤ n) : Rd w a k (u8v (l.take k)) := by
  have hl : l.length = n := by rw [← u8v_len]; exact h.1
  refine ⟨by rw [u8v_len, List.length_take]; omega, fun h0 => ?_⟩
  obtain ⟨b, o, e, hl2, hc⟩ := h.2 (by omega)
  refine ⟨b, o, e, hl2, fun j hj => ?_⟩
  rw [hc j (by omega)]
  simp [u8v, List.getElem?_take, hj]
theorem own_cap {w : World} {B k n c : Nat} {e : TypeId} {a : Option Addr} {xs : List Value} (h : w.ownsRow B e k (.slice a n c) n xs) : n ≤ c := by
  rcases h.2 with ⟨e, h0⟩ | ⟨g, cap, cur, e, _, _, h1, _⟩
  · omega
  · cases e; exact h1
/-- two cells of a box, and that it is there -/
def Two (B : Nat) (u v : Value) (W : World) : Prop := W.cell? ⟨B, 0, none⟩ = some u ∧ W.cell? ⟨B, 1, none⟩ = some v
theorem Two.below {B : Nat} {u v : Value} {W W' : World} (h : Two B u v W) (hb : Below W.heap.size W W') : Two B u v W' := by
  have hl : B < W.heap.size := heap_lt_of_cell h.1
  exact ⟨(hb.cell (p := ⟨B, 0, none⟩) hl).trans h.1, (hb.cell (p := ⟨B, 1, none⟩) hl).trans h.2⟩
end Go.Proofs.Ytidnojjhchmmgaa
