/- A memory of the program's, as it lies in a world. -/
import Derived.Test.YteaididdamihlaaTmA
import Derived.Test.YteaididdamihlaaTmK
import Derived.Maps.OwnSet
namespace Go.Proofs.Yteaididdamihlaa
set_option linter.unusedVariables false
set_option linter.unusedSimpArgs false
open Go.Joins Go.ChangeShapes Go.WideShapes Go.ChangeAt Go.RowKit Go.Deep

/-- how a page's pointer reads: its block, or -1 -/
def pgR : Value → Option (DataW Unit × List MemPlace)
  | .pointer none => some (.lit (.int .i64 (-1)), [])
  | .pointer (some ⟨b, 0, none⟩) => some (.lit (.int .i64 (b : Int)), [])
  | _ => none
theorem pgR_some {v : Value} {b : Nat} {ps : List MemPlace} (h : pgR v = some (.lit (.int .i64 (b : Int)), ps)) : v = .pointer (some ⟨b, 0, none⟩) := by
  unfold pgR at h
  split at h
  · simp only [Option.some.injEq, Prod.mk.injEq, DataW.lit.injEq, Lit.int.injEq] at h
    omega
  · simp only [Option.some.injEq, Prod.mk.injEq, DataW.lit.injEq, Lit.int.injEq] at h
    obtain ⟨⟨-, h⟩, -⟩ := h
    have := Int.ofNat.inj h
    subst this
    rfl
  · cases h
theorem pgR_none {v : Value} {ps : List MemPlace} (h : pgR v = some (.lit (.int .i64 (-1)), ps)) : v = .pointer none := by
  unfold pgR at h
  split at h
  · rfl
  · simp only [Option.some.injEq, Prod.mk.injEq, DataW.lit.injEq, Lit.int.injEq] at h
    omega
  · cases h
theorem keyed : Maps.Keyed Try.prog 29 := Maps.int_keyed Try.underlying29
theorem zeroPage (w : World) : (zeroValue 73).run Try.prog w = .ok (.pointer none) w := by kernel_rfl
theorem key_u64 (p : Int) (h0 : 0 ≤ p) (h1 : p < 18446744073709551616) : keyOf Try.prog 29 (.int .u64 p) = some (.int .u64 p) :=
  Maps.keyOf_int_mk Try.underlying29 (by simp [Lit.wf, IntKind.min, IntKind.max, IntKind.signed, IntKind.bits]; omega)
/-- a page's cells -/
def pageC (m : Mm) (p : Nat) : List Value := (List.range 256).map (fun j => Value.int .u8 (m.by_ (256 * p + j) : Int)) ++ (List.range 8).map (fun i => Value.bool (decide (8 * p + i ∈ m.mks)))
theorem pageC_len (m : Mm) (p : Nat) : (pageC m p).length = 264 := by simp [pageC]
theorem pageC_by (m : Mm) (p j : Nat) (h : j < 256) : (pageC m p)[j]? = some (.int .u8 (m.by_ (256 * p + j) : Int)) := by
  unfold pageC
  rw [List.getElem?_append_left (by simpa using h)]
  simp [h]
theorem pageC_tag (m : Mm) (p i : Nat) (h : i < 8) : (pageC m p)[256 + i]? = some (.bool (decide (8 * p + i ∈ m.mks))) := by
  unfold pageC
  rw [List.getElem?_append_right (by simp)]
  simp [h]
/-- a map of pages: B's entries are D; page p lies at pb p -/
structure Says (D : DataW Unit) (pb : Nat → Nat) (l : List Nat) : Prop where
  at_ : ∀ p : Nat, p < 18446744073709551616 → D.atKey (.int .u64 (p : Int)) (.lit (.int .i64 (-1))) = .lit (.int .i64 (if p ∈ l then (pb p : Int) else -1))
  has : ∀ p : Nat, p < 18446744073709551616 → Maps.has D (.int .u64 (p : Int)) = decide (p ∈ l)
  size : Maps.size D = l.length
structure MemO (W : World) (M B : Nat) (D : DataW Unit) (pb : Nat → Nat) (F : Nat → Prop) (m : Mm) : Prop where
  ok : Okm m
  box : BoxN W M #[.map (some B), .int .i64 (m.bud : Int)]
  own : W.ownsMap (H := Unit) Try.prog 29 pgR B m.pgs.length D
  says : Says D pb m.pgs
  pg : ∀ p ∈ m.pgs, BoxN W (pb p) (pageC m p).toArray
  inj : ∀ p ∈ m.pgs, ∀ q ∈ m.pgs, pb p = pb q → p = q
  fm : F M
  fb : F B
  fp : ∀ p ∈ m.pgs, F (pb p)
  lt : ∀ b, F b → b < W.heap.size
def MemAt (W : World) (M : Nat) (F : Nat → Prop) (m : Mm) : Prop := ∃ B D pb, MemO W M B D pb F m
theorem MemO.at_ {W : World} {M B : Nat} {D : DataW Unit} {pb : Nat → Nat} {F : Nat → Prop} {m : Mm} (h : MemO W M B D pb F m) : MemAt W M F m := ⟨B, D, pb, h⟩
theorem boxN_ne {W : World} {a b : Nat} {x y : Array Value} (h : BoxN W a x) (k : BoxN W b y) (hs : x.size ≠ y.size) : a ≠ b := by
  rintro rfl
  obtain ⟨t, h⟩ := h
  obtain ⟨u, k⟩ := k
  rw [h] at k
  cases k
  exact hs rfl
theorem own_block {W W' : World} {k : TypeId} {R : Value → Option (DataW Unit × List MemPlace)} {b n : Nat} {D : DataW Unit} (h : W.ownsMap Try.prog k R b n D) (hb : W'.heap[b]? = W.heap[b]?) : W'.ownsMap Try.prog k R b n D := by
  obtain ⟨es, clock, h1, r⟩ := h
  exact ⟨es, clock, hb.trans h1, r⟩
theorem boxN_block {W W' : World} {b : Nat} {x : Array Value} (h : BoxN W b x) (hb : W'.heap[b]? = W.heap[b]?) : BoxN W' b x := by
  obtain ⟨t, h⟩ := h
  exact ⟨t, hb.trans h⟩
theorem MemO.mb {W : World} {M B : Nat} {D : DataW Unit} {pb : Nat → Nat} {F : Nat → Prop} {m : Mm} (h : MemO W M B D pb F m) : M ≠ B := by
  rintro rfl
  obtain ⟨t, h1⟩ := h.box
  obtain ⟨es, clock, h2, -⟩ := h.own
  rw [h1] at h2
  cases h2
theorem MemO.pm {W : World} {M B : Nat} {D : DataW Unit} {pb : Nat → Nat} {F : Nat → Prop} {m : Mm} (h : MemO W M B D pb F m) {p : Nat} (hp : p ∈ m.pgs) : pb p ≠ M :=
  boxN_ne (h.pg p hp) h.box (by rw [List.size_toArray, pageC_len]; show 264 ≠ 2; decide)
theorem MemO.pB {W : World} {M B : Nat} {D : DataW Unit} {pb : Nat → Nat} {F : Nat → Prop} {m : Mm} (h : MemO W M B D pb F m) {p : Nat} (hp : p ∈ m.pgs) : pb p ≠ B := by
  intro e
  obtain ⟨t, h1⟩ := h.pg p hp
  obtain ⟨es, clock, h2, -⟩ := h.own
  rw [e, h2] at h1
  cases h1
/-- it lies as it lay where its blocks do -/
theorem MemO.blocks {W W' : World} {M B : Nat} {D : DataW Unit} {pb : Nat → Nat} {F : Nat → Prop} {m : Mm} (h : MemO W M B D pb F m) (hb : ∀ b, F b → W'.heap[b]? = W.heap[b]?) (hs : W.heap.size ≤ W'.heap.size) : MemO W' M B D pb F m :=
  ⟨h.ok, boxN_block h.box (hb _ h.fm), own_block h.own (hb _ h.fb), h.says, fun p hp => boxN_block (h.pg p hp) (hb _ (h.fp p hp)), h.inj, h.fm, h.fb, h.fp, fun b hf => Nat.lt_of_lt_of_le (h.lt b hf) hs⟩
theorem MemO.below {W W' : World} {M B : Nat} {D : DataW Unit} {pb : Nat → Nat} {F : Nat → Prop} {m : Mm} (h : MemO W M B D pb F m) (hb : Below W.heap.size W W') : MemO W' M B D pb F m :=
  h.blocks (fun b hf => hb.block b (h.lt b hf)) hb.size
theorem MemO.kp {W W' : World} {M B : Nat} {D : DataW Unit} {pb : Nat → Nat} {F : Nat → Prop} {m : Mm} {S : Nat → Prop} {n : Nat} (h : MemO W M B D pb F m) (hk : KP n S W W') (hn : W.heap.size ≤ n) (hd : ∀ b, F b → ¬ S b) : MemO W' M B D pb F m :=
  h.blocks (fun b hf => hk.block b (Nat.lt_of_lt_of_le (h.lt b hf) hn) (hd b hf)) hk.size
theorem MemAt.below {W W' : World} {M : Nat} {F : Nat → Prop} {m : Mm} (h : MemAt W M F m) (hb : Below W.heap.size W W') : MemAt W' M F m := by
  obtain ⟨B, D, pb, h⟩ := h
  exact ⟨B, D, pb, h.below hb⟩
theorem MemAt.kp {W W' : World} {M : Nat} {F : Nat → Prop} {m : Mm} {S : Nat → Prop} {n : Nat} (h : MemAt W M F m) (hk : KP n S W W') (hn : W.heap.size ≤ n) (hd : ∀ b, F b → ¬ S b) : MemAt W' M F m := by
  obtain ⟨B, D, pb, h⟩ := h
  exact ⟨B, D, pb, h.kp hk hn hd⟩
/-- the page that has a byte -/
def pgP (pb : Nat → Nat) (m : Mm) (p : Nat) : Option Addr := if p ∈ m.pgs then some ⟨pb p, 0, none⟩ else none
theorem MemO.look {W : World} {M B : Nat} {D : DataW Unit} {pb : Nat → Nat} {F : Nat → Prop} {m : Mm} (h : MemO W M B D pb F m) (p : Nat) (hp : p < 18446744073709551616) :
    (Instr.lookup 58 (.map (some B)) (.int .u64 (p : Int)) false).run Try.prog W = .ok (.pointer (pgP pb m p)) W := by
  obtain ⟨v, ps, hrun, hv⟩ := h.own.lookup keyed Try.underlying58 (zeroPage W) (z := .pointer none) (zd := .lit (.int .i64 (-1))) (zp := []) rfl (key_u64 (p : Int) (by omega) (by omega))
  rw [hrun]
  rw [h.says.at_ p hp] at hv
  unfold pgP
  split at hv
  · rename_i hm
    rw [if_pos hm, pgR_some hv]
  · rename_i hm
    rw [if_neg hm, pgR_none hv]
theorem pageOf_any (W : World) (M B : Nat) (D : DataW Unit) (pb : Nat → Nat) (F : Nat → Prop) (m : Mm) (h : MemO W M B D pb F m) (a : Nat) (ha : a < 18446744073709551616) :
    Calls Try.prog 33 #[.pointer (some ⟨M, 0, none⟩), .int .u64 (a : Int)] W fun e W' => e = .returned (.pointer (pgP pb m (a / 256))) ∧ W = W' := by
  have hl := h.look (a / 256) (by omega)
  have c0 : W.cell? ⟨M, 0, none⟩ = some (.map (some B)) := h.box.cell 0
  have e1 : (((a / 256 : Nat) : Int)) = (a : Int) / 256 := by omega
  rw [e1] at hl
  clear h
  go_enter Try.func33, Try.ntmps33
  go_wp2_with fail
  go_ret
  exact ⟨rfl, rfl⟩
end Go.Proofs.Yteaididdamihlaa
