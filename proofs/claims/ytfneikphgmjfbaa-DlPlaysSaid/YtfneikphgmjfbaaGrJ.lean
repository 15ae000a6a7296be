/- The chapter's examples hold. -/
import Derived.Test.YtfneikphgmjfbaaGrI
namespace Go.Proofs.Ytfneikphgmjfbaa
set_option linter.unusedVariables false
set_option linter.unusedSimpArgs false
open Go.Joins Go.ChangeShapes Go.WideShapes Go.ChangeAt Go.RowKit

def libO (name : List UInt8) (needs : List (List UInt8)) (na : Option Addr) (nc : Nat) : Obj := ⟨name, needs, na, nc, none, 0, 0, none, 0, 0, none, 0, 0, none, 0, 0, none, 0, 0⟩
/-- the chapter's four objects, and its ring -/
def exA (p q r : Option Addr) (x y z u : Nat) : List Obj := [libO [97] [[98], [99]] p x, libO [98] [[100]] q y, libO [99] [[100]] r z, libO [100] [] none u]
def exR (p q : Option Addr) (x y : Nat) : List Obj := [libO [97] [[98]] p x, libO [98] [[97]] q y]
def exX (p : Option Addr) (x : Nat) : List Obj := [libO [97] [[120]] p x]
theorem ex1 (p q r : Option Addr) (x y z u : Nat) : closR (exA p q r x y z u) [97] = .inl [0, 1, 2, 3] := rfl
theorem ex2 (p q r : Option Addr) (x y z u : Nat) : closR (exA p q r x y z u) [121] = .inr [121] := rfl
theorem ex3 (p : Option Addr) (x : Nat) : closR (exX p x) [97] = .inr [120] := rfl
theorem ex4 (p q r : Option Addr) (x y z u : Nat) : Vis (exA p q r x y z u) [0, 1, 2, 3] [] [] [some 0, some 1, some 2, some 3] [0, 1, 3, 2] [3, 1, 2, 0] :=
  .go rfl (show Vis _ _ _ _ [some 1, some 2] _ _ from .go rfl (show Vis _ _ _ _ [some 3] _ _ from .go rfl (show Vis _ _ _ _ [] _ _ from .nil _ _) (.nil _ _)) (.go rfl (show Vis _ _ _ _ [some 3] _ _ from .skip rfl (.nil _ _)) (.nil _ _))) (.skip rfl (.skip rfl (.skip rfl (.nil _ _))))
theorem ex5 (p q : Option Addr) (x y : Nat) : Vis (exR p q x y) [0, 1] [] [] [some 0, some 1] [0, 1] [1, 0] :=
  .go rfl (show Vis _ _ _ _ [some 1] _ _ from .go rfl (show Vis _ _ _ _ [some 0] _ _ from .skip rfl (.nil _ _)) (.nil _ _)) (.skip rfl (.nil _ _))
theorem named_small (l : List Obj) (h : l.all (fun o => decide (o.name.length ≤ 1) && (decide (o.needs.length ≤ 2) && o.needs.all (fun n => decide (n.length ≤ 1)))) = true) : Named l := by
  intro o ho
  have := List.all_eq_true.1 h o ho
  simp only [Bool.and_eq_true, decide_eq_true_eq, List.all_eq_true] at this
  obtain ⟨h1, h2, h3⟩ := this
  exact ⟨by unfold maxLen; omega, by omega, fun n hn => by have := h3 n hn; unfold maxLen; omega⟩
def objsC (l : List Obj) : List Value := l.flatMap objC
theorem objsC_get (l : List Obj) (k : Nat) (hk : k < l.length) (j : Nat) (hj : j < 7) : (objsC l)[k * 7 + j]? = (objC l[k])[j]? := by
  induction l generalizing k with
  | nil => simp at hk
  | cons s l ih =>
    have e : (objC s).length = 7 := rfl
    simp only [objsC, List.flatMap_cons]
    rcases Nat.eq_zero_or_pos k with rfl | hp
    · rw [List.getElem?_append_left (by omega)]; simp
    · obtain ⟨k, rfl⟩ : ∃ q, k = q + 1 := ⟨k - 1, by omega⟩
      rw [List.getElem?_append_right (by omega), e, show (k + 1) * 7 + j - 7 = k * 7 + j by omega]
      simp only [List.getElem_cons_succ]
      exact ih k (by simpa using hk)
theorem cells7_of {w : World} {b i : Nat} {o : Obj} (h : ∀ j, j < 7 → w.cell? ⟨b, i + j, none⟩ = (objC o)[j]?) : Cells7 w b i o :=
  ⟨h 0 (by decide), h 1 (by decide), h 2 (by decide), h 3 (by decide), h 4 (by decide), h 5 (by decide), h 6 (by decide)⟩
theorem RdO.lit (w : World) (l : List Obj) (t : TypeId) (hr : ∀ o ∈ l, Rd w o.na o.needs.length (txs o.needs)) : RdO (w.alloc (.cells (objsC l).toArray t)) (some ⟨w.heap.size, 0, none⟩) l :=
  ⟨fun _ => ⟨w.heap.size, 0, rfl, fun k hk => cells7_of fun j hj => by
    rw [Nat.zero_add, boxed (Below.refl _ _) (k * 7 + j)]
    simp only [List.getElem?_toArray]
    exact objsC_get l k hk j hj⟩, fun o ho => (hr o ho).alloc _⟩
theorem b_next {w w1 w2 : World} {o : Go.Obj} (h : Below w.heap.size w w1) (hb : Below (w1.alloc o).heap.size (w1.alloc o) w2) : Below w.heap.size w w2 := bTrans (bAlloc h o) hb
theorem rd_next {w1 w2 : World} {a : Option Addr} {n : Nat} {xs : List Value} {o : Go.Obj} (h : Rd w1 a n xs) (hb : Below (w1.alloc o).heap.size (w1.alloc o) w2) : Rd w2 a n xs := (h.alloc o).below hb
end Go.Proofs.Ytfneikphgmjfbaa
