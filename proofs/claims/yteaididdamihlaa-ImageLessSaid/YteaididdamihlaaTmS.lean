/- The document's memory, as it lies in a world; what is read of it: contracts. -/
import Derived.Test.YteaididdamihlaaTmR
namespace Go.Proofs.Yteaididdamihlaa
set_option linter.unusedVariables false
set_option linter.unusedSimpArgs false
open Go.Joins Go.ChangeShapes Go.WideShapes Go.ChangeAt Go.RowKit Go.Deep

def cellC (p : Nat × Nat) : List Value := [.int .u64 (p.1 : Int), .int .u8 (p.2 : Int)]
def cellsC (l : List (Nat × Nat)) : List Value := l.flatMap cellC
theorem cellsC_len (l : List (Nat × Nat)) : (cellsC l).length = l.length * 2 := by
  induction l with
  | nil => rfl
  | cons x r ih => show (cellC x ++ cellsC r).length = _; rw [List.length_append, ih, List.length_cons]; show 2 + _ = _; omega
theorem cellsC_get (l : List (Nat × Nat)) (i : Nat) (hi : i < l.length) : (cellsC l)[i * 2]? = some (.int .u64 (l[i].1 : Int)) ∧ (cellsC l)[i * 2 + 1]? = some (.int .u8 (l[i].2 : Int)) := by
  induction l generalizing i with
  | nil => simp at hi
  | cons x r ih =>
    show (cellC x ++ cellsC r)[i * 2]? = _ ∧ (cellC x ++ cellsC r)[i * 2 + 1]? = _
    cases i with
    | zero => exact ⟨rfl, rfl⟩
    | succ i =>
      have := ih i (by simpa using hi)
      rw [List.getElem?_append_right (by show 2 ≤ _; omega), List.getElem?_append_right (by show 2 ≤ _; omega)]
      rw [show (i + 1) * 2 - (cellC x).length = i * 2 by show _ - 2 = _; omega, show (i + 1) * 2 + 1 - (cellC x).length = i * 2 + 1 by show _ - 2 = _; omega]
      simpa using this
def lookF : List (Nat × Nat) → Nat → Nat
  | [], _ => 0
  | p :: r, a => if p.1 = a then p.2 else lookF r a
/-- a row that lies in these blocks, and not in R -/
def RdF (W : World) (F : Nat → Prop) (R : Nat) (a : Option Addr) (n : Nat) (xs : List Value) : Prop := Rd W a n xs ∧ (0 < n → ∃ b off, a = some ⟨b, off, none⟩ ∧ F b ∧ b ≠ R)
structure CellsOk (cs : List (Nat × Nat)) (m : Mm) : Prop where
  look : ∀ a, lookF cs a = m.by_ a
  in_ : ∀ p ∈ cs, p.1 / 256 ∈ m.pgs ∧ p.2 < 256
  nd : (cs.map Prod.fst).Nodup
structure RmO (W : World) (R : Nat) (F : Nat → Prop) (m : Mm) (na ca ka : Option Addr) (nc cc kc : Nat) (cs : List (Nat × Nat)) : Prop where
  ok : Okm m
  box : BoxN W R #[.slice na m.pgs.length nc, .slice ca cs.length cc, .slice ka m.mks.length kc, .int .i64 (m.bud : Int)]
  rn : RdF W F R na m.pgs.length (u64s m.pgs)
  rc : RdF W F R ca (cs.length * 2) (cellsC cs)
  rk : RdF W F R ka m.mks.length (u64s (m.mks.map (32 * ·)))
  co : CellsOk cs m
  fr : F R
  lt : ∀ b, F b → b < W.heap.size
def RmAt (W : World) (R : Nat) (F : Nat → Prop) (m : Mm) : Prop := ∃ na ca ka nc cc kc cs, RmO W R F m na ca ka nc cc kc cs
theorem RdF.blocks {W W' : World} {F : Nat → Prop} {R : Nat} {a : Option Addr} {n : Nat} {xs : List Value} (h : RdF W F R a n xs) (hb : ∀ b, F b → b ≠ R → W'.heap[b]? = W.heap[b]?) (hs : W.heap.size ≤ W'.heap.size) : RdF W' F R a n xs :=
  ⟨⟨h.1.1, fun hn => by
    obtain ⟨b, off, e, hl, hc⟩ := h.1.2 hn
    obtain ⟨b', off', e', hf, hne⟩ := h.2 hn
    rw [e] at e'; cases e'
    exact ⟨b, off, e, Nat.lt_of_lt_of_le hl hs, fun k hk => (World.cell?_of_block (hb b hf hne)).trans (hc k hk)⟩⟩, h.2⟩
theorem RdF.mono {W : World} {F F' : Nat → Prop} {R : Nat} {a : Option Addr} {n : Nat} {xs : List Value} (h : RdF W F R a n xs) (hf : ∀ b, F b → F' b) : RdF W F' R a n xs :=
  ⟨h.1, fun hn => by obtain ⟨b, off, e, h1, h2⟩ := h.2 hn; exact ⟨b, off, e, hf b h1, h2⟩⟩
theorem RmO.blocks {W W' : World} {R : Nat} {F : Nat → Prop} {m : Mm} {na ca ka : Option Addr} {nc cc kc : Nat} {cs : List (Nat × Nat)} (h : RmO W R F m na ca ka nc cc kc cs) (hb : ∀ b, F b → W'.heap[b]? = W.heap[b]?) (hs : W.heap.size ≤ W'.heap.size) : RmO W' R F m na ca ka nc cc kc cs :=
  ⟨h.ok, boxN_block h.box (hb _ h.fr), h.rn.blocks (fun b hf _ => hb b hf) hs, h.rc.blocks (fun b hf _ => hb b hf) hs, h.rk.blocks (fun b hf _ => hb b hf) hs, h.co, h.fr, fun b hf => Nat.lt_of_lt_of_le (h.lt b hf) hs⟩
theorem RmO.below {W W' : World} {R : Nat} {F : Nat → Prop} {m : Mm} {na ca ka : Option Addr} {nc cc kc : Nat} {cs : List (Nat × Nat)} (h : RmO W R F m na ca ka nc cc kc cs) (hb : Below W.heap.size W W') : RmO W' R F m na ca ka nc cc kc cs :=
  h.blocks (fun b hf => hb.block b (h.lt b hf)) hb.size
theorem RmAt.blocks {W W' : World} {R : Nat} {F : Nat → Prop} {m : Mm} (h : RmAt W R F m) (hb : ∀ b, F b → W'.heap[b]? = W.heap[b]?) (hs : W.heap.size ≤ W'.heap.size) : RmAt W' R F m := by
  obtain ⟨na, ca, ka, nc, cc, kc, cs, h⟩ := h
  exact ⟨na, ca, ka, nc, cc, kc, cs, h.blocks hb hs⟩
theorem RmAt.lt {W : World} {R : Nat} {F : Nat → Prop} {m : Mm} (h : RmAt W R F m) : ∀ b, F b → b < W.heap.size := by
  obtain ⟨na, ca, ka, nc, cc, kc, cs, h⟩ := h
  exact h.lt
theorem RmAt.below {W W' : World} {R : Nat} {F : Nat → Prop} {m : Mm} (h : RmAt W R F m) (hb : Below W.heap.size W W') : RmAt W' R F m := h.blocks (fun b hf => hb.block b (h.lt b hf)) hb.size
theorem RmAt.kp {W W' : World} {R : Nat} {F : Nat → Prop} {m : Mm} {S : Nat → Prop} {n : Nat} (h : RmAt W R F m) (hk : KP n S W W') (hn : W.heap.size ≤ n) (hd : ∀ b, F b → ¬ S b) : RmAt W' R F m :=
  h.blocks (fun b hf => hk.block b (Nat.lt_of_lt_of_le (h.lt b hf) hn) (hd b hf)) hk.size
theorem RmAt.ok {W : World} {R : Nat} {F : Nat → Prop} {m : Mm} (h : RmAt W R F m) : Okm m := by
  obtain ⟨na, ca, ka, nc, cc, kc, cs, h⟩ := h
  exact h.ok
theorem nodup_len {xs ys : List Nat} (h : xs.Nodup) (hs : ∀ x ∈ xs, x ∈ ys) : xs.length ≤ ys.length := by
  induction xs generalizing ys with
  | nil => simp
  | cons x r ih =>
    have hx := List.nodup_cons.1 h
    have hm := hs x List.mem_cons_self
    have h1 := ih (ys := ys.erase x) hx.2 (fun y hy => (List.mem_erase_of_ne (fun e => hx.1 (by rw [← e]; exact hy))).2 (hs y (List.mem_cons_of_mem _ hy)))
    rw [List.length_erase_of_mem hm] at h1
    have := List.length_pos_of_mem hm
    rw [List.length_cons]
    omega
theorem addr_len (l : List Nat) : (l.flatMap fun p => (List.range 256).map fun j => 256 * p + j).length = l.length * 256 := by
  induction l with
  | nil => rfl
  | cons x r ih => rw [List.flatMap_cons, List.length_append, ih, List.length_cons, List.length_map, List.length_range]; omega
theorem CellsOk.len {cs : List (Nat × Nat)} {m : Mm} (h : CellsOk cs m) (hk : Okm m) : cs.length ≤ 65536 := by
  have h1 := nodup_len (ys := m.pgs.flatMap fun p => (List.range 256).map fun j => 256 * p + j) h.nd (fun x hx => by
    obtain ⟨p, hp, rfl⟩ := List.mem_map.1 hx
    refine List.mem_flatMap.2 ⟨p.1 / 256, (h.in_ p hp).1, List.mem_map.2 ⟨p.1 % 256, List.mem_range.2 (by omega), by omega⟩⟩)
  rw [List.length_map, addr_len] at h1
  have := hk.len
  have := hk.bud
  omega
theorem look_none {cs : List (Nat × Nat)} {a : Nat} (h : ∀ p ∈ cs, p.1 ≠ a) : lookF cs a = 0 := by
  induction cs with
  | nil => rfl
  | cons x r ih => unfold lookF; rw [if_neg (h x List.mem_cons_self)]; exact ih (fun p hp => h p (List.mem_cons_of_mem _ hp))
theorem look_at {cs : List (Nat × Nat)} {a k : Nat} (hk : k < cs.length) (hn : ∀ p ∈ cs.take k, p.1 ≠ a) (ha : cs[k].1 = a) : lookF cs a = cs[k].2 := by
  induction cs generalizing k with
  | nil => simp at hk
  | cons x r ih =>
    unfold lookF
    cases k with
    | zero =>
      have ha : x.1 = a := ha
      rw [if_pos ha]
      rfl
    | succ k =>
      rw [if_neg (hn x (by simp))]
      exact ih (by simpa using hk) (fun p hp => hn p (by rw [List.take_succ_cons]; exact List.mem_cons_of_mem _ hp)) ha
theorem rd_cell {W : World} {a : Option Addr} {cs : List (Nat × Nat)} (h : Rd W a (cs.length * 2) (cellsC cs)) {k : Nat} (hk : k < cs.length) : ∃ b off, a = some ⟨b, off, none⟩ ∧ W.cell? ⟨b, off + k * 2, none⟩ = some (.int .u64 (cs[k].1 : Int)) ∧ W.cell? ⟨b, off + k * 2 + 1, none⟩ = some (.int .u8 (cs[k].2 : Int)) := by
  obtain ⟨b, off, e, -, hc⟩ := h.2 (by omega)
  obtain ⟨g1, g2⟩ := cellsC_get cs k hk
  exact ⟨b, off, e, (hc (k * 2) (by omega)).trans g1, by rw [Nat.add_assoc]; exact (hc (k * 2 + 1) (by omega)).trans g2⟩
end Go.Proofs.Yteaididdamihlaa
