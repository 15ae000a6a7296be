/- Merged: CeA CeC CeD CeE CeF CeG CeH CeI CeJ. -/
import Derived.Test.YteaididdamihlaaMem
import Derived.Test.YteaididdamihlaaRows
import Derived.Below
import Derived.RowKit3
import Derived.ProofKit
import Derived.WalkKit
import Derived.Lib.Hide
import Derived.LoopTactic
import Derived.Outline
import Derived.Deep.QuietTactic
import Derived.BigQuiet
import Derived.Laws.BitsAllLaws
import Derived.OpenShut
import Derived.Lib.SmallJoins
import Derived.Deep.RegionHeld3
import Derived.Deep.RegionWith
import Derived.Laws.NewBlocks
import Derived.Laws.Strings
namespace Go.Proofs.Yteaididdamihlaa.Ce
set_option linter.unusedVariables false
set_option linter.unusedSimpArgs false
open Go.RowKit

structure Sym where
  name : List UInt8
  ver : List UInt8
  place : Int
  size : Int
  kind : Int
  bind : Int
  seen : Int
  defd : Bool
structure Seg where
  place : Int
  size : Int
  flags : Int
  bytes : List UInt8
  ba : Option Addr
  bc : Nat
structure Rel where
  place : Int
  sym : Int
structure Ob where
  name : List UInt8
  needs : List (List UInt8)
  segs : List Seg
  syms : List Sym
  rels : List Rel
  init : List Int
  fini : List Int
  na : Option Addr
  nc : Nat
  ga : Option Addr
  gc : Nat
  sa : Option Addr
  sc : Nat
  ra : Option Addr
  rc : Nat
  ia : Option Addr
  ic : Nat
  fa : Option Addr
  fc : Nat
def strV (s : List UInt8) : Value := .string ⟨s.toArray⟩
def symC (s : Sym) : List Value := [.string ⟨s.name.toArray⟩, .string ⟨s.ver.toArray⟩, .int .u64 s.place, .int .u64 s.size, .int .i64 s.kind, .int .i64 s.bind, .int .i64 s.seen, .bool s.defd]
def segC (s : Seg) : List Value := [.int .u64 s.place, .int .u64 s.size, .int .i64 s.flags, .slice s.ba s.bytes.length s.bc]
def relC (x : Rel) : List Value := [.int .u64 x.place, .int .i64 x.sym]
def txs (l : List (List UInt8)) : List Value := l.map strV
def i64s (l : List Int) : List Value := l.map fun x => Value.int .i64 x
def u8v (l : List UInt8) : List Value := l.map fun b => Value.int .u8 (b.toNat : Int)
def symsC (l : List Sym) : List Value := l.flatMap symC
def segsC (l : List Seg) : List Value := l.flatMap segC
def relsC (l : List Rel) : List Value := l.flatMap relC
theorem flat_len {α : Type} {f : α → List Value} {k : Nat} (hf : ∀ x, (f x).length = k) (l : List α) : (l.flatMap f).length = l.length * k := by
  induction l with
  | nil => simp
  | cons s l ih => rw [List.flatMap_cons, List.length_append, List.length_cons, ih, hf, Nat.succ_mul, Nat.add_comm]
theorem flat_get {α : Type} {f : α → List Value} {k : Nat} (hf : ∀ x, (f x).length = k) (l : List α) (i : Nat) (hi : i < l.length) (j : Nat) (hj : j < k) : (l.flatMap f)[i * k + j]? = (f l[i])[j]? := by
  induction l generalizing i with
  | nil => simp at hi
  | cons s l ih =>
    rw [List.flatMap_cons]
    rcases Nat.eq_zero_or_pos i with rfl | hp
    · rw [List.getElem?_append_left (by rw [hf]; omega)]; simp
    · obtain ⟨i, rfl⟩ : ∃ q, i = q + 1 := ⟨i - 1, by omega⟩
      rw [List.getElem?_append_right (by rw [hf, Nat.succ_mul]; omega), hf, show (i + 1) * k + j - k = i * k + j by rw [Nat.succ_mul]; omega]
      simp only [List.getElem_cons_succ]
      exact ih i (by simpa using hi)
theorem symC_len (s : Sym) : (symC s).length = 8 := rfl
theorem segC_len (s : Seg) : (segC s).length = 4 := rfl
theorem relC_len (s : Rel) : (relC s).length = 2 := rfl
theorem txs_len (l : List (List UInt8)) : (txs l).length = l.length := by simp [txs]
theorem i64s_len (l : List Int) : (i64s l).length = l.length := by simp [i64s]
theorem u8v_len (l : List UInt8) : (u8v l).length = l.length := by simp [u8v]
theorem txs_get (l : List (List UInt8)) (k : Nat) (h : k < l.length) : (txs l)[k]? = some (.string ⟨l[k].toArray⟩) := by simp [txs, strV, h]
theorem i64s_get (l : List Int) (k : Nat) (h : k < l.length) : (i64s l)[k]? = some (.int .i64 l[k]) := by simp [i64s, h]
theorem u8v_get (l : List UInt8) (k : Nat) (h : k < l.length) : (u8v l)[k]? = some (.int .u8 (l[k].toNat : Int)) := by simp [u8v, h]
/-- rows of elements of k cells -/
theorem rdE_at {α : Type} {f : α → List Value} {k : Nat} (hf : ∀ x, (f x).length = k) (hk : 0 < k) {w : World} {a : Option Addr} {l : List α} (h : Rd w a (l.length * k) (l.flatMap f)) {i : Nat} (hi : i < l.length) :
    ∃ b off, a = some ⟨b, off, none⟩ ∧ b < w.heap.size ∧ ∀ j, j < k → w.cell? ⟨b, off + i * k + j, none⟩ = (f l[i])[j]? := by
  have hpos : 0 < l.length * k := Nat.mul_pos (by omega) hk
  obtain ⟨b, off, e, hl, hc⟩ := h.2 hpos
  refine ⟨b, off, e, hl, fun j hj => ?_⟩
  have hlt : i * k + j < l.length * k := Nat.lt_of_lt_of_le (by omega : i * k + j < i * k + k) (by rw [← Nat.succ_mul]; exact Nat.mul_le_mul_right k hi)
  rw [Nat.add_assoc, hc (i * k + j) hlt]
  exact flat_get hf l i hi j hj
/-- the cells of one -/
def SegAt (w : World) (b o : Nat) (s : Seg) : Prop := w.cell? ⟨b, o, none⟩ = some (.int .u64 s.place) ∧ w.cell? ⟨b, o + 1, none⟩ = some (.int .u64 s.size) ∧ w.cell? ⟨b, o + 2, none⟩ = some (.int .i64 s.flags) ∧ w.cell? ⟨b, o + 3, none⟩ = some (.slice s.ba s.bytes.length s.bc)
def SymAt (w : World) (b o : Nat) (s : Sym) : Prop :=
  w.cell? ⟨b, o, none⟩ = some (.string ⟨s.name.toArray⟩) ∧ w.cell? ⟨b, o + 1, none⟩ = some (.string ⟨s.ver.toArray⟩) ∧ w.cell? ⟨b, o + 2, none⟩ = some (.int .u64 s.place) ∧ w.cell? ⟨b, o + 3, none⟩ = some (.int .u64 s.size) ∧
    w.cell? ⟨b, o + 4, none⟩ = some (.int .i64 s.kind) ∧ w.cell? ⟨b, o + 5, none⟩ = some (.int .i64 s.bind) ∧ w.cell? ⟨b, o + 6, none⟩ = some (.int .i64 s.seen) ∧ w.cell? ⟨b, o + 7, none⟩ = some (.bool s.defd)
def RdG (w : World) (a : Option Addr) (l : List Seg) : Prop := Rd w a (l.length * 4) (segsC l)
def RdS (w : World) (a : Option Addr) (l : List Sym) : Prop := Rd w a (l.length * 8) (symsC l)
def RdR (w : World) (a : Option Addr) (l : List Rel) : Prop := Rd w a (l.length * 2) (relsC l)
theorem RdG.at_ {w : World} {a : Option Addr} {l : List Seg} (h : RdG w a l) {i : Nat} (hi : i < l.length) : ∃ b off, a = some ⟨b, off, none⟩ ∧ b < w.heap.size ∧ SegAt w b (off + i * 4) l[i] := by
  obtain ⟨b, off, e, hl, g⟩ := rdE_at segC_len (by decide) h hi
  exact ⟨b, off, e, hl, g 0 (by decide), g 1 (by decide), g 2 (by decide), g 3 (by decide)⟩
theorem RdS.at_ {w : World} {a : Option Addr} {l : List Sym} (h : RdS w a l) {i : Nat} (hi : i < l.length) : ∃ b off, a = some ⟨b, off, none⟩ ∧ b < w.heap.size ∧ SymAt w b (off + i * 8) l[i] := by
  obtain ⟨b, off, e, hl, g⟩ := rdE_at symC_len (by decide) h hi
  exact ⟨b, off, e, hl, g 0 (by decide), g 1 (by decide), g 2 (by decide), g 3 (by decide), g 4 (by decide), g 5 (by decide), g 6 (by decide), g 7 (by decide)⟩
theorem RdR.at_ {w : World} {a : Option Addr} {l : List Rel} (h : RdR w a l) {i : Nat} (hi : i < l.length) : ∃ b off, a = some ⟨b, off, none⟩ ∧ b < w.heap.size ∧ w.cell? ⟨b, off + i * 2, none⟩ = some (.int .u64 l[i].place) ∧ w.cell? ⟨b, off + i * 2 + 1, none⟩ = some (.int .i64 l[i].sym) := by
  obtain ⟨b, off, e, hl, g⟩ := rdE_at relC_len (by decide) h hi
  exact ⟨b, off, e, hl, g 0 (by decide), g 1 (by decide)⟩
theorem RdG.below {w w' : World} {a : Option Addr} {l : List Seg} (h : RdG w a l) (hb : Below w.heap.size w w') : RdG w' a l := Rd.below h hb
theorem RdS.below {w w' : World} {a : Option Addr} {l : List Sym} (h : RdS w a l) (hb : Below w.heap.size w w') : RdS w' a l := Rd.below h hb
theorem RdR.below {w w' : World} {a : Option Addr} {l : List Rel} (h : RdR w a l) (hb : Below w.heap.size w w') : RdR w' a l := Rd.below h hb
def objC (o : Ob) : List Value := [.string ⟨o.name.toArray⟩, .slice o.na o.needs.length o.nc, .slice o.ga o.segs.length o.gc, .slice o.sa o.syms.length o.sc, .slice o.ra o.rels.length o.rc, .slice o.ia o.init.length o.ic, .slice o.fa o.fini.length o.fc]
def objV (o : Ob) : Value := .agg (objC o).toArray
/-- an object's parts lie in this world -/
structure RdOb (w : World) (o : Ob) : Prop where
  nd : Rd w o.na o.needs.length (txs o.needs)
  sg : RdG w o.ga o.segs
  by_ : ∀ s ∈ o.segs, Rd w s.ba s.bytes.length (u8v s.bytes)
  sy : RdS w o.sa o.syms
  rl : RdR w o.ra o.rels
  ini : Rd w o.ia o.init.length (i64s o.init)
  fin : Rd w o.fa o.fini.length (i64s o.fini)
theorem RdOb.below {w w' : World} {o : Ob} (h : RdOb w o) (hb : Below w.heap.size w w') : RdOb w' o :=
  ⟨h.nd.below hb, h.sg.below hb, fun s hs => (h.by_ s hs).below hb, h.sy.below hb, h.rl.below hb, h.ini.below hb, h.fin.below hb⟩
/-- numbers of 64 bits, and lengths that there can be -/
def u64B (x : Int) : Prop := 0 ≤ x ∧ x < 18446744073709551616
structure FitOb (o : Ob) : Prop where
  nm : o.name.length < 9223372036854775808
  nd : ∀ n ∈ o.needs, n.length < 9223372036854775808
  ndl : o.needs.length < 9223372036854775808
  sgl : o.segs.length < 9223372036854775808
  sg : ∀ s ∈ o.segs, u64B s.place ∧ u64B s.size ∧ s.bytes.length < 9223372036854775808
  syl : o.syms.length < 9223372036854775808
  sy : ∀ s ∈ o.syms, u64B s.place ∧ u64B s.size ∧ s.name.length < 9223372036854775808 ∧ s.ver.length < 9223372036854775808
  rll : o.rels.length < 9223372036854775808
  rl : ∀ s ∈ o.rels, u64B s.place
  inl : o.init.length < 9223372036854775808
  fil : o.fini.length < 9223372036854775808

/-! What is wrong with an object. -/
def chB (c : Nat) : Bool := (97 ≤ c && c ≤ 122 || 65 ≤ c && c ≤ 90) || (48 ≤ c && c ≤ 57) || c == 95 || c == 46 || c == 45
def nameB (s : List UInt8) : Bool := s.all (fun c => chB c.toNat) && (decide (1 ≤ s.length) && decide (s.length ≤ 30))
def needsB (name : List UInt8) (l : List (List UInt8)) (k : Nat) : Bool := (List.range (l.length - k)).all fun i => match l[k + i]? with
  | some n => nameB n && (n != name && !(l.take (k + i)).contains n)
  | none => true
def namesB (o : Ob) : Bool := nameB o.name && needsB o.name o.needs 0
def countsB (o : Ob) : Bool := decide (o.needs.length ≤ 8) && (decide (o.segs.length ≤ 6) && (decide (o.syms.length ≤ 40) && (decide (o.rels.length ≤ 60) && (decide (o.init.length ≤ 8) && decide (o.fini.length ≤ 8)))))
def hasB (s : Seg) (x n : Int) : Bool := decide (s.place ≤ x) && (decide (x - s.place ≤ s.size) && decide (n ≤ s.size - (x - s.place)))
def firstI {α : Type} (p : α → Bool) (l : List α) : Int := match l.findIdx? p with
  | some i => (i : Int)
  | none => -1
def atF (l : List Seg) (x n : Int) : Int := firstI (fun s => hasB s x n) l
def segB (free : Int) (s : Seg) : Bool := decide (s.place % 256 = 0) && (decide (free ≤ s.place) && (decide (s.place ≤ 16384) && (decide (1 ≤ s.size) && (decide (s.size ≤ 2048) && (decide (s.place + s.size ≤ 16384) && (decide ((s.bytes.length : Int) ≤ s.size) && (decide (1 ≤ s.flags) && decide (s.flags ≤ 5))))))))
def upP (x : Int) : Int := (x + 255) / 256 * 256
def segsB (free : Int) : List Seg → Bool
  | [] => true
  | s :: r => segB free s && segsB (upP (s.place + s.size)) r
def flagsAt (l : List Seg) (i : Int) : Int := match l[i.toNat]? with
  | some s => s.flags
  | none => 0
def symB (l : List Seg) (s : Sym) : Bool :=
  (nameB s.name && (s.ver == [] || nameB s.ver)) && ((decide (1 ≤ s.kind) && (decide (s.kind ≤ 2) && (decide (1 ≤ s.bind) && (decide (s.bind ≤ 3) && (decide (1 ≤ s.seen) && decide (s.seen ≤ 2)))))) &&
    (if s.defd then decide (0 ≤ atF l s.place s.size) && (if s.kind = 1 then decide (4 ≤ flagsAt l (atF l s.place s.size)) && (decide (s.place % 4 = 0) && decide (0 < s.size)) else !decide (4 ≤ flagsAt l (atF l s.place s.size)))
      else decide (s.place = 0) && (decide (s.size = 0) && (decide (s.bind ≠ 1) && decide (s.seen ≠ 2)))))
def kindAt (l : List Sym) (i : Int) : Int := match l[i.toNat]? with
  | some s => s.kind
  | none => 0
def roomZ (l : List Sym) (i : Int) : Int := if kindAt l i = 1 then 64 else 32
def writeB (l : List Seg) (x n : Int) : Bool := l.any fun s => decide (s.flags = 2 ∨ s.flags = 3) && hasB s x n
def relB (sg : List Seg) (sy : List Sym) (free : Int) (x : Rel) : Bool := decide (x.place % 32 = 0) && (decide (0 ≤ x.sym) && (decide (x.sym < sy.length) && (decide (free ≤ x.place) && writeB sg x.place (roomZ sy x.sym))))
def relsB (sg : List Seg) (sy : List Sym) (free : Int) : List Rel → Bool
  | [] => true
  | x :: r => relB sg sy free x && relsB sg sy (x.place + roomZ sy x.sym) r
def fnB (l : List Sym) (n : Int) : Bool := decide (0 ≤ n) && (decide (n < l.length) && (match l[n.toNat]? with
  | some s => s.defd && decide (s.kind = 1)
  | none => false))
def checkF (o : Ob) : Int :=
  if !namesB o then 103 else if !countsB o then 104 else if !segsB 0 o.segs then 105 else if !o.syms.all (symB o.segs) then 106 else if !relsB o.segs o.syms 0 o.rels then 107 else if !(o.init.all (fnB o.syms) && o.fini.all (fnB o.syms)) then 108 else 0
theorem firstI_some {α : Type} {p : α → Bool} {l : List α} {i : Nat} (hi : i < l.length) (hp : p l[i] = true) (hn : ∀ j (h : j < i), p (l[j]'(by omega)) = false) : firstI p l = (i : Int) := by
  unfold firstI
  rw [List.findIdx?_eq_some_iff_getElem.2 ⟨hi, hp, fun j hj => by simp [hn j hj]⟩]
theorem firstI_none {α : Type} {p : α → Bool} {l : List α} (hn : ∀ j (h : j < l.length), p l[j] = false) : firstI p l = -1 := by
  unfold firstI
  rw [List.findIdx?_eq_none_iff.2 fun x hx => by obtain ⟨j, h, rfl⟩ := List.getElem_of_mem hx; exact hn j h]
theorem firstI_lt {α : Type} (p : α → Bool) (l : List α) : -1 ≤ firstI p l ∧ firstI p l < l.length := by
  unfold firstI
  cases e : l.findIdx? p with
  | none => exact ⟨Int.le_refl _, by show (-1 : Int) < _; omega⟩
  | some i =>
    obtain ⟨h, -⟩ := List.findIdx?_eq_some_iff_getElem.1 e
    exact ⟨by show (-1 : Int) ≤ (i : Int); omega, by show (i : Int) < _; omega⟩
theorem firstI_any {α : Type} (p : α → Bool) (l : List α) : decide (0 ≤ firstI p l) = l.any p := by
  unfold firstI
  cases e : l.findIdx? p with
  | none =>
    have := List.findIdx?_eq_none_iff.1 e
    rw [Bool.eq_iff_iff]
    simp only [decide_eq_true_eq, List.any_eq_true]
    exact ⟨fun h => absurd h (by decide), fun ⟨x, hx, hp⟩ => by rw [this x hx] at hp; cases hp⟩
  | some i =>
    obtain ⟨h, hp, -⟩ := List.findIdx?_eq_some_iff_getElem.1 e
    rw [Bool.eq_iff_iff]
    simp only [decide_eq_true_eq, List.any_eq_true]
    exact ⟨fun _ => ⟨_, List.getElem_mem h, hp⟩, fun _ => by simp⟩
theorem segsB_in {free : Int} {l : List Seg} (h : segsB free l = true) : ∀ s ∈ l, 0 ≤ s.size ∧ s.place + s.size ≤ 16384 ∧ 1 ≤ s.flags ∧ s.flags ≤ 5 := by
  induction l generalizing free with
  | nil => simp
  | cons s r ih =>
    simp only [segsB, Bool.and_eq_true] at h
    intro x hx
    rcases List.mem_cons.1 hx with rfl | hx
    · have := h.1
      simp only [segB, Bool.and_eq_true, decide_eq_true_eq] at this
      omega
    · exact ih h.2 x hx
end Go.Proofs.Yteaididdamihlaa.Ce

namespace Go.Proofs.Yteaididdamihlaa.Ce
set_option linter.unusedVariables false
set_option linter.unusedSimpArgs false
open Go.Joins Go.ChangeShapes Go.WideShapes Go.ChangeAt Go.RowKit

theorem all_take {α : Type} (p : α → Bool) (l : List α) (k : Nat) (h : k < l.length) : (l.take (k + 1)).all p = ((l.take k).all p && p l[k]) := by
  rw [List.take_add_one, List.getElem?_eq_getElem h, List.all_append]; simp
theorem all_miss {α : Type} (p : α → Bool) (l : List α) (k : Nat) (h : k < l.length) (hp : p l[k] = false) : l.all p = false := by
  rw [Bool.eq_false_iff]
  intro hall
  have := List.all_eq_true.1 hall l[k] (List.getElem_mem h)
  rw [hp] at this; cases this
end Go.Proofs.Yteaididdamihlaa.Ce

namespace Go.Proofs.Yteaididdamihlaa.Ce
set_option linter.unusedVariables false
set_option linter.unusedSimpArgs false
open Go.Joins Go.ChangeShapes Go.WideShapes Go.ChangeAt Go.RowKit

end Go.Proofs.Yteaididdamihlaa.Ce

namespace Go.Proofs.Yteaididdamihlaa.Ce
set_option linter.unusedVariables false
set_option linter.unusedSimpArgs false
open Go.Joins Go.ChangeShapes Go.WideShapes Go.ChangeAt Go.RowKit

theorem and2 (f : Int) (h1 : 1 ≤ f) (h7 : f ≤ 7) : (bits .and .i64 f 2 = 0 ∧ (f = 1 ∨ f = 4 ∨ f = 5)) ∨ (bits .and .i64 f 2 ≠ 0 ∧ (f = 2 ∨ f = 3 ∨ f = 6 ∨ f = 7)) := by
  have : f = 1 ∨ f = 2 ∨ f = 3 ∨ f = 4 ∨ f = 5 ∨ f = 6 ∨ f = 7 := by omega
  rcases this with rfl | rfl | rfl | rfl | rfl | rfl | rfl <;> decide
theorem and4 (f : Int) (h1 : 1 ≤ f) (h7 : f ≤ 7) : (bits .and .i64 f 4 = 0 ∧ f ≤ 3) ∨ (bits .and .i64 f 4 ≠ 0 ∧ 4 ≤ f) := by
  have : f = 1 ∨ f = 2 ∨ f = 3 ∨ f = 4 ∨ f = 5 ∨ f = 6 ∨ f = 7 := by omega
  rcases this with rfl | rfl | rfl | rfl | rfl | rfl | rfl <;> decide
end Go.Proofs.Yteaididdamihlaa.Ce

namespace Go.Proofs.Yteaididdamihlaa.Ce
set_option linter.unusedVariables false
set_option linter.unusedSimpArgs false
open Go.Joins Go.ChangeShapes Go.WideShapes Go.ChangeAt Go.RowKit

theorem needsB_step (name : List UInt8) (l : List (List UInt8)) (k : Nat) (h : k < l.length) : needsB name l k = ((nameB l[k] && (l[k] != name && !(l.take k).contains l[k])) && needsB name l (k + 1)) := by
  unfold needsB
  obtain ⟨d, hd⟩ : ∃ d, l.length - k = d + 1 := ⟨l.length - k - 1, by omega⟩
  rw [hd, show l.length - (k + 1) = d by omega, List.range_succ_eq_map, List.all_cons, List.all_map]
  simp only [Nat.add_zero, List.getElem?_eq_getElem h]
  congr 1
  apply congrArg
  funext i
  simp only [Function.comp, Nat.succ_eq_add_one, show k + (i + 1) = k + 1 + i by omega]
theorem needsB_end (name : List UInt8) (l : List (List UInt8)) (k : Nat) (h : l.length ≤ k) : needsB name l k = true := by
  unfold needsB
  rw [show l.length - k = 0 by omega]
  rfl
theorem rd_take {w : World} {g off m k : Nat} {l : List (List UInt8)} (h : Rd w (some ⟨g, off, none⟩) m (txs l)) (hk : k ≤ m) : Rd w (some ⟨g, off, none⟩) k (txs (l.take k)) := by
  refine ⟨by have := h.1; simp [txs] at this ⊢; omega, fun h0 => ?_⟩
  obtain ⟨b, o, e, hl, hc⟩ := h.2 (by omega)
  refine ⟨b, o, e, hl, fun j hj => ?_⟩
  rw [hc j (by omega)]
  simp [txs, List.getElem?_take, hj]
end Go.Proofs.Yteaididdamihlaa.Ce

namespace Go.Proofs.Yteaididdamihlaa.Ce
set_option linter.unusedVariables false
set_option linter.unusedSimpArgs false
open Go.Joins Go.ChangeShapes Go.WideShapes Go.ChangeAt Go.RowKit

theorem boxed {w W' : World} {cs : Array Value} {t : TypeId} (h : Below (w.alloc (.cells cs t)).heap.size (w.alloc (.cells cs t)) W') (j : Nat) : W'.cell? ⟨w.heap.size, j, none⟩ = cs[j]? := by
  rw [h.cell (p := ⟨w.heap.size, j, none⟩) (by rw [size_alloc]; exact Nat.lt_succ_self _)]
  exact cell_of_row _ _ j cs t (0, 0) (heap_alloc_new w _)
theorem two_boxes {w W : World} {c1 c2 : Array Value} {t1 t2 : TypeId} (h : Below ((w.alloc (.cells c1 t1)).alloc (.cells c2 t2)).heap.size ((w.alloc (.cells c1 t1)).alloc (.cells c2 t2)) W) :
    (∀ j, W.cell? ⟨w.heap.size, j, none⟩ = c1[j]?) ∧ ∀ j, W.cell? ⟨w.heap.size + 1, j, none⟩ = c2[j]? :=
  ⟨fun j => boxed (bTrans (bAlloc (Below.refl _ _) _) h) j, fun j => by
    have := boxed (w := w.alloc (.cells c1 t1)) h j
    rwa [size_alloc] at this⟩
end Go.Proofs.Yteaididdamihlaa.Ce

namespace Go.Proofs.Yteaididdamihlaa.Ce
set_option linter.unusedVariables false
set_option linter.unusedSimpArgs false
open Go.Joins Go.ChangeShapes Go.WideShapes Go.ChangeAt Go.RowKit

theorem box_cell {w W : World} {cs : Array Value} {t : TypeId} (h : Below (w.alloc (.cells cs t)).heap.size (w.alloc (.cells cs t)) W) (j : Nat) {v : Value} (hv : cs[j]? = some v) : W.cell? ⟨w.heap.size, j, none⟩ = some v := (boxed h j).trans hv
end Go.Proofs.Yteaididdamihlaa.Ce

namespace Go.Proofs.Yteaididdamihlaa.Ce
set_option linter.unusedVariables false
set_option linter.unusedSimpArgs false
open Go.Joins Go.ChangeShapes Go.WideShapes Go.ChangeAt Go.RowKit

theorem writeB_end {l : List Seg} {x n : Int} (hsb : segsB 0 l = true) (h : writeB l x n = true) : x + n ≤ 16384 := by
  obtain ⟨s, hs, hp⟩ := List.any_eq_true.1 h
  have h1 := segsB_in hsb s hs
  simp only [Bool.and_eq_true, hasB, decide_eq_true_eq] at hp
  omega
end Go.Proofs.Yteaididdamihlaa.Ce

namespace Go.Proofs.Yteaididdamihlaa.Ce
set_option linter.unusedVariables false
set_option linter.unusedSimpArgs false
open Go.Joins Go.ChangeShapes Go.WideShapes Go.ChangeAt Go.RowKit

/-- the seven cells of an object's box -/
theorem box7 {w W : World} {o : Ob} {t : TypeId} (h : Below (w.alloc (.cells (objC o).toArray t)).heap.size (w.alloc (.cells (objC o).toArray t)) W) (j : Nat) : W.cell? ⟨w.heap.size, j, none⟩ = (objC o)[j]? := by
  have := boxed h j
  rw [this]
  simp
end Go.Proofs.Yteaididdamihlaa.Ce

