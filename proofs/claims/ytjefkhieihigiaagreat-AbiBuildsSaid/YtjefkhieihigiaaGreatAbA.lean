/- What a program begins with: plain mathematics. -/
import Derived.Test.YtjefkhieihigiaaGreatTa3
namespace Go.Proofs.YtjefkhieihigiaaGreat
set_option linter.unusedVariables false
set_option linter.unusedSimpArgs false
open Go

/-! What it needs. -/
def lensN (l : List (List UInt8)) : Nat := (l.map fun s => s.length + 1).sum
theorem lensN_nil : lensN [] = 0 := rfl
theorem lensN_cons (s : List UInt8) (r : List (List UInt8)) : lensN (s :: r) = s.length + 1 + lensN r := by simp [lensN]
theorem lensN_app (a b : List (List UInt8)) : lensN (a ++ b) = lensN a + lensN b := by simp [lensN]
def upN (n : Nat) : Nat := (n + 31) / 32 * 32
def needN (a e : List (List UInt8)) (k : Nat) : Nat := upN (lensN a + lensN e) + ((a.length + 1) + (e.length + 1) + (k + 1)) * 32
def textB (s : List UInt8) : Bool := decide (s.length ≤ 200) && !s.any (· == 0)
def textsB (l : List (List UInt8)) : Bool := decide (l.length ≤ 8) && l.all textB
def muchB (c : Cp) : Bool := c.g && ((bits .and .i64 c.p 96 != 0) || ((bits .and .i64 c.p 2 != 0) && (bits .and .i64 c.p 4 != 0)))
def auxB (l : List Cp) : Bool := decide (l.length ≤ 8) && !l.any muchB
def roomB (need pages : Int) : Bool := decide (65536 < pages) || (decide (0 < pages) && decide (need ≤ pages * 256 - 64))
/-! What is laid. -/
def nullC : Cp := ⟨0, 0, 0, 0, -1, false⟩
def spanC (f t p : Int) : Cp := ⟨f, t, f, p, -1, true⟩
def byteS (s : List UInt8) : List Nat := s.map UInt8.toNat ++ [0]
theorem byteS_len (s : List UInt8) : (byteS s).length = s.length + 1 := by simp [byteS]
theorem byteS_lt (s : List UInt8) : ∀ b ∈ byteS s, b < 256 := fun b hb => by
  rcases List.mem_append.1 hb with h | h
  · obtain ⟨c, -, rfl⟩ := List.mem_map.1 h; exact c.toNat_lt
  · rw [List.mem_singleton] at h; rw [h]; decide
def layT (m : Mm) (x : Nat) : List (List UInt8) → Mm
  | [] => m
  | s :: r => layT (putF m x (byteS s)).1 (x + (s.length + 1)) r
def capsT (x : Nat) : List (List UInt8) → List Cp
  | [] => []
  | s :: r => spanC x ((x + (s.length + 1) : Nat) : Int) 1 :: capsT (x + (s.length + 1)) r
theorem capsT_len : ∀ (l : List (List UInt8)) (x : Nat), (capsT x l).length = l.length
  | [], x => rfl
  | s :: r, x => by simp [capsT, capsT_len r]
def layC (m : Mm) (x : Nat) : List Cp → Mm
  | [] => m
  | c :: r => layC (storeC m x c).1 (x + 32) r
theorem layT_snoc : ∀ (l : List (List UInt8)) (m : Mm) (x : Nat) (s : List UInt8), layT m x (l ++ [s]) = (putF (layT m x l) ((x + lensN l : Nat) : Int) (byteS s)).1
  | [], m, x, s => by simp [layT, lensN]
  | t :: r, m, x, s => by
    rw [List.cons_append, layT, layT_snoc r, lensN_cons, layT]
    rw [show x + (t.length + 1) + lensN r = x + (t.length + 1 + lensN r) by omega]
theorem capsT_snoc : ∀ (l : List (List UInt8)) (x : Nat) (s : List UInt8), capsT x (l ++ [s]) = capsT x l ++ [spanC ((x + lensN l : Nat) : Int) ((x + lensN l + (s.length + 1) : Nat) : Int) 1]
  | [], x, s => by simp [capsT, lensN]
  | t :: r, x, s => by
    rw [List.cons_append, capsT, capsT_snoc r, lensN_cons, capsT, List.cons_append]
    rw [show x + (t.length + 1) + lensN r = x + (t.length + 1 + lensN r) by omega]
theorem layC_snoc : ∀ (l : List Cp) (m : Mm) (x : Nat) (c : Cp), layC m x (l ++ [c]) = (storeC (layC m x l) ((x + 32 * l.length : Nat) : Int) c).1
  | [], m, x, c => by simp [layC]
  | d :: r, m, x, c => by
    rw [List.cons_append, layC, layC_snoc r, layC, List.length_cons]
    rw [show x + 32 + 32 * r.length = x + 32 * (r.length + 1) by omega]
structure St where
  st : Cp
  ar : Cp
  en : Cp
  au : Cp
/-- where the lists begin -/
def listN (x : Nat) (a e : List (List UInt8)) : Nat := upN (x + lensN a + lensN e)
def layM (m : Mm) (x : Nat) (a e : List (List UInt8)) (k : List Cp) : Mm :=
  layC (layC (layC (layT (layT m x a) (x + lensN a) e) (listN x a e) (capsT x a ++ [nullC])) (listN x a e + 32 * (a.length + 1)) (capsT (x + lensN a) e ++ [nullC])) (listN x a e + 32 * (a.length + 1) + 32 * (e.length + 1)) (k ++ [nullC])
def startS (x y : Nat) (a e : List (List UInt8)) (k : List Cp) : St :=
  let s := listN x a e
  let t := s + 32 * (a.length + 1)
  let u := t + 32 * (e.length + 1)
  let v := u + 32 * (k.length + 1)
  ⟨⟨v, y, y, 27, -1, true⟩, spanC s ((s + 32 * a.length : Nat) : Int) 9, spanC t ((t + 32 * e.length : Nat) : Int) 9, spanC u ((u + 32 * k.length : Nat) : Int) 9⟩
def noSt : St := ⟨noCp, noCp, noCp, noCp⟩
/-- what begins, where memory is then, and why it can't -/
def buildF (m : Mm) (f p : Int) (a e : List (List UInt8)) (k : List Cp) : Mm × St × Int :=
  if !(textsB a && (textsB e && auxB k)) then (m, noSt, 1)
  else if !roomB (needN a e k.length) p then (m, noSt, 190)
  else if (mapF m f p).2 ≠ 0 then ((mapF m f p).1, noSt, (mapF m f p).2)
  else (layM (mapF m f p).1 (f.toNat * 256) a e k, startS (f.toNat * 256) ((f + p).toNat * 256) a e k, 0)
end Go.Proofs.YtjefkhieihigiaaGreat
