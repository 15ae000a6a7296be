/- Merged: TmQ TmR TmS TmT TmU TmV TmW. -/
import Derived.Test.YtjefkhieihigiaaTa3
namespace Go.Proofs.Ytjefkhieihigiaa
set_option linter.unusedVariables false
set_option linter.unusedSimpArgs false
open Go.Joins Go.ChangeShapes Go.WideShapes Go.ChangeAt Go.RowKit Go.Deep

def u64s (l : List Nat) : List Value := l.map fun (x : Nat) => Value.int .u64 (x : Int)
theorem u64s_length (l : List Nat) : (u64s l).length = l.length := by simp [u64s]
theorem u64s_get (l : List Nat) (k : Nat) (h : k < l.length) : (u64s l)[k]? = some (.int .u64 ((l[k] : Nat) : Int)) := by simp [u64s, h]
theorem u64s_snoc (l : List Nat) (x : Nat) : u64s (l ++ [x]) = u64s l ++ [.int .u64 (x : Int)] := by simp [u64s]
theorem infoU64 : (Try.prog.info? 22).map (fun i => (i.zero, i.size, i.bytes)) = some (some (.int .u64 0), 1, 8) := by kernel_rfl
theorem take_filter (l : List Nat) (p k : Nat) (h : k < l.length) : (l.take (k + 1)).filter (· != p) = (l.take k).filter (· != p) ++ (if l[k] = p then [] else [l[k]]) := by
  rw [List.take_succ_eq_append_getElem h, List.filter_append]
  congr 1
  by_cases e : l[k] = p
  · rw [if_pos e]; simp [e]
  · rw [if_neg e]; simp [e]
end Go.Proofs.Ytjefkhieihigiaa

namespace Go.Proofs.Ytjefkhieihigiaa
set_option linter.unusedVariables false
set_option linter.unusedSimpArgs false
open Go.Joins Go.ChangeShapes Go.WideShapes Go.ChangeAt Go.RowKit Go.Deep

/-- how far a number is put among others -/
def PutInv (p : Nat) (l : List Nat) (k : Nat) (xs : List Nat) (dn : Bool) : Prop := (dn = true → xs ++ l.drop k = ins p l ∧ xs.length = k + 1) ∧ (dn = false → xs = l.take k ∧ l.take k ++ ins p (l.drop k) = ins p l)
theorem putInv_start (p : Nat) (l : List Nat) : PutInv p l 0 [] false := ⟨fun h => (by cases h), fun _ => ⟨by simp, by simp⟩⟩
theorem putInv_step {p : Nat} {l : List Nat} {k : Nat} {xs : List Nat} (h : PutInv p l k xs true) (hk : k < l.length) : PutInv p l (k + 1) (xs ++ [l[k]]) true := by
  obtain ⟨h1, h2⟩ := h.1 rfl
  refine ⟨fun _ => ⟨?_, by rw [List.length_append, h2]; rfl⟩, fun e => (by cases e)⟩
  rw [← h1, List.drop_eq_getElem_cons hk]
  simp
theorem putInv_here {p : Nat} {l : List Nat} {k : Nat} {xs : List Nat} (h : PutInv p l k xs false) (hk : k < l.length) (hp : p < l[k]) : PutInv p l (k + 1) (xs ++ [p] ++ [l[k]]) true := by
  obtain ⟨h1, h2⟩ := h.2 rfl
  refine ⟨fun _ => ⟨?_, by rw [List.length_append, List.length_append, h1, List.length_take]; simp; omega⟩, fun e => (by cases e)⟩
  rw [← h2, List.drop_eq_getElem_cons hk]
  unfold ins
  rw [if_pos hp, h1]
  simp
theorem putInv_past {p : Nat} {l : List Nat} {k : Nat} {xs : List Nat} (h : PutInv p l k xs false) (hk : k < l.length) (hp : ¬ p < l[k]) : PutInv p l (k + 1) (xs ++ [l[k]]) false := by
  obtain ⟨h1, h2⟩ := h.2 rfl
  refine ⟨fun e => (by cases e), fun _ => ⟨?_, ?_⟩⟩
  · rw [h1, List.take_succ_eq_append_getElem hk]
  · rw [← h2, List.drop_eq_getElem_cons hk, List.take_succ_eq_append_getElem hk]
    rw [show ins p (l[k] :: l.drop (k + 1)) = l[k] :: ins p (l.drop (k + 1)) from if_neg hp, List.append_assoc]
    rfl
theorem putInv_end {p : Nat} {l xs : List Nat} {dn : Bool} (h : PutInv p l l.length xs dn) : (if dn then xs else xs ++ [p]) = ins p l := by
  cases dn with
  | true =>
    obtain ⟨h1, -⟩ := h.1 rfl
    rw [List.drop_length, List.append_nil] at h1
    exact h1
  | false =>
    obtain ⟨h1, h2⟩ := h.2 rfl
    rw [List.drop_length, List.take_length] at h2
    rw [List.take_length] at h1
    rw [← h2, h1]
    rfl
end Go.Proofs.Ytjefkhieihigiaa

namespace Go.Proofs.Ytjefkhieihigiaa
set_option linter.unusedVariables false
set_option linter.unusedSimpArgs false
open Go.Joins Go.ChangeShapes Go.WideShapes Go.ChangeAt Go.RowKit Go.Deep

def cellC (p : Nat × Nat) : List Value := [.int .u64 (p.1 : Int), .int .u8 (p.2 : Int)]
def cellsC (l : List (Nat × Nat)) : List Value := l.flatMap cellC
theorem cellsC_len (l : List (Nat × Nat)) : (cellsC l).length = l.length * 2 := by
  induction l with
  | nil => rfl
  | cons x r ih => show (cellC x ++ cellsC r).length = _; rw [List.length_append, ih, List.length_cons]; show 2 + _ = _; omega
theorem cellsC_get (l : List (Nat × Nat)) (i : Nat) (hi : i < l.length) : (cellsC l)[i * 2]? = some (.int .u64 (l[i].1 : Int)) ∧ (cellsC l)[i * 2 + 1]? = some (.int .u8 (l[i].2 : Int)) := by
  induction l generalizing i with
  | nil => simp at hi
  | cons x r ih =>
    show (cellC x ++ cellsC r)[i * 2]? = _ ∧ (cellC x ++ cellsC r)[i * 2 + 1]? = _
    cases i with
    | zero => exact ⟨rfl, rfl⟩
    | succ i =>
      have := ih i (by simpa using hi)
      rw [List.getElem?_append_right (by show 2 ≤ _; omega), List.getElem?_append_right (by show 2 ≤ _; omega)]
      rw [show (i + 1) * 2 - (cellC x).length = i * 2 by show _ - 2 = _; omega, show (i + 1) * 2 + 1 - (cellC x).length = i * 2 + 1 by show _ - 2 = _; omega]
      simpa using this
def lookF : List (Nat × Nat) → Nat → Nat
  | [], _ => 0
  | p :: r, a => if p.1 = a then p.2 else lookF r a
/-- a row that lies in these blocks, and not in R -/
def RdF (W : World) (F : Nat → Prop) (R : Nat) (a : Option Addr) (n : Nat) (xs : List Value) : Prop := Rd W a n xs ∧ (0 < n → ∃ b off, a = some ⟨b, off, none⟩ ∧ F b ∧ b ≠ R)
structure CellsOk (cs : List (Nat × Nat)) (m : Mm) : Prop where
  look : ∀ a, lookF cs a = m.by_ a
  in_ : ∀ p ∈ cs, p.1 / 256 ∈ m.pgs ∧ p.2 < 256
  nd : (cs.map Prod.fst).Nodup
structure RmO (W : World) (R : Nat) (F : Nat → Prop) (m : Mm) (na ca ka : Option Addr) (nc cc kc : Nat) (cs : List (Nat × Nat)) : Prop where
  ok : Okm m
  box : BoxN W R #[.slice na m.pgs.length nc, .slice ca cs.length cc, .slice ka m.mks.length kc, .int .i64 (m.bud : Int)]
  rn : RdF W F R na m.pgs.length (u64s m.pgs)
  rc : RdF W F R ca (cs.length * 2) (cellsC cs)
  rk : RdF W F R ka m.mks.length (u64s (m.mks.map (32 * ·)))
  co : CellsOk cs m
  fr : F R
  lt : ∀ b, F b → b < W.heap.size
def RmAt (W : World) (R : Nat) (F : Nat → Prop) (m : Mm) : Prop := ∃ na ca ka nc cc kc cs, RmO W R F m na ca ka nc cc kc cs
theorem RdF.blocks {W W' : World} {F : Nat → Prop} {R : Nat} {a : Option Addr} {n : Nat} {xs : List Value} (h : RdF W F R a n xs) (hb : ∀ b, F b → b ≠ R → W'.heap[b]? = W.heap[b]?) (hs : W.heap.size ≤ W'.heap.size) : RdF W' F R a n xs :=
  ⟨⟨h.1.1, fun hn => by
    obtain ⟨b, off, e, hl, hc⟩ := h.1.2 hn
    obtain ⟨b', off', e', hf, hne⟩ := h.2 hn
    rw [e] at e'; cases e'
    exact ⟨b, off, e, Nat.lt_of_lt_of_le hl hs, fun k hk => (World.cell?_of_block (hb b hf hne)).trans (hc k hk)⟩⟩, h.2⟩
theorem RdF.mono {W : World} {F F' : Nat → Prop} {R : Nat} {a : Option Addr} {n : Nat} {xs : List Value} (h : RdF W F R a n xs) (hf : ∀ b, F b → F' b) : RdF W F' R a n xs :=
  ⟨h.1, fun hn => by obtain ⟨b, off, e, h1, h2⟩ := h.2 hn; exact ⟨b, off, e, hf b h1, h2⟩⟩
theorem RmO.blocks {W W' : World} {R : Nat} {F : Nat → Prop} {m : Mm} {na ca ka : Option Addr} {nc cc kc : Nat} {cs : List (Nat × Nat)} (h : RmO W R F m na ca ka nc cc kc cs) (hb : ∀ b, F b → W'.heap[b]? = W.heap[b]?) (hs : W.heap.size ≤ W'.heap.size) : RmO W' R F m na ca ka nc cc kc cs :=
  ⟨h.ok, boxN_block h.box (hb _ h.fr), h.rn.blocks (fun b hf _ => hb b hf) hs, h.rc.blocks (fun b hf _ => hb b hf) hs, h.rk.blocks (fun b hf _ => hb b hf) hs, h.co, h.fr, fun b hf => Nat.lt_of_lt_of_le (h.lt b hf) hs⟩
theorem RmO.below {W W' : World} {R : Nat} {F : Nat → Prop} {m : Mm} {na ca ka : Option Addr} {nc cc kc : Nat} {cs : List (Nat × Nat)} (h : RmO W R F m na ca ka nc cc kc cs) (hb : Below W.heap.size W W') : RmO W' R F m na ca ka nc cc kc cs :=
  h.blocks (fun b hf => hb.block b (h.lt b hf)) hb.size
theorem RmAt.blocks {W W' : World} {R : Nat} {F : Nat → Prop} {m : Mm} (h : RmAt W R F m) (hb : ∀ b, F b → W'.heap[b]? = W.heap[b]?) (hs : W.heap.size ≤ W'.heap.size) : RmAt W' R F m := by
  obtain ⟨na, ca, ka, nc, cc, kc, cs, h⟩ := h
  exact ⟨na, ca, ka, nc, cc, kc, cs, h.blocks hb hs⟩
theorem RmAt.lt {W : World} {R : Nat} {F : Nat → Prop} {m : Mm} (h : RmAt W R F m) : ∀ b, F b → b < W.heap.size := by
  obtain ⟨na, ca, ka, nc, cc, kc, cs, h⟩ := h
  exact h.lt
theorem RmAt.below {W W' : World} {R : Nat} {F : Nat → Prop} {m : Mm} (h : RmAt W R F m) (hb : Below W.heap.size W W') : RmAt W' R F m := h.blocks (fun b hf => hb.block b (h.lt b hf)) hb.size
theorem RmAt.kp {W W' : World} {R : Nat} {F : Nat → Prop} {m : Mm} {S : Nat → Prop} {n : Nat} (h : RmAt W R F m) (hk : KP n S W W') (hn : W.heap.size ≤ n) (hd : ∀ b, F b → ¬ S b) : RmAt W' R F m :=
  h.blocks (fun b hf => hk.block b (Nat.lt_of_lt_of_le (h.lt b hf) hn) (hd b hf)) hk.size
theorem RmAt.ok {W : World} {R : Nat} {F : Nat → Prop} {m : Mm} (h : RmAt W R F m) : Okm m := by
  obtain ⟨na, ca, ka, nc, cc, kc, cs, h⟩ := h
  exact h.ok
theorem nodup_len {xs ys : List Nat} (h : xs.Nodup) (hs : ∀ x ∈ xs, x ∈ ys) : xs.length ≤ ys.length := by
  induction xs generalizing ys with
  | nil => simp
  | cons x r ih =>
    have hx := List.nodup_cons.1 h
    have hm := hs x List.mem_cons_self
    have h1 := ih (ys := ys.erase x) hx.2 (fun y hy => (List.mem_erase_of_ne (fun e => hx.1 (by rw [← e]; exact hy))).2 (hs y (List.mem_cons_of_mem _ hy)))
    rw [List.length_erase_of_mem hm] at h1
    have := List.length_pos_of_mem hm
    rw [List.length_cons]
    omega
theorem addr_len (l : List Nat) : (l.flatMap fun p => (List.range 256).map fun j => 256 * p + j).length = l.length * 256 := by
  induction l with
  | nil => rfl
  | cons x r ih => rw [List.flatMap_cons, List.length_append, ih, List.length_cons, List.length_map, List.length_range]; omega
theorem CellsOk.len {cs : List (Nat × Nat)} {m : Mm} (h : CellsOk cs m) (hk : Okm m) : cs.length ≤ 65536 := by
  have h1 := nodup_len (ys := m.pgs.flatMap fun p => (List.range 256).map fun j => 256 * p + j) h.nd (fun x hx => by
    obtain ⟨p, hp, rfl⟩ := List.mem_map.1 hx
    refine List.mem_flatMap.2 ⟨p.1 / 256, (h.in_ p hp).1, List.mem_map.2 ⟨p.1 % 256, List.mem_range.2 (by omega), by omega⟩⟩)
  rw [List.length_map, addr_len] at h1
  have := hk.len
  have := hk.bud
  omega
theorem look_none {cs : List (Nat × Nat)} {a : Nat} (h : ∀ p ∈ cs, p.1 ≠ a) : lookF cs a = 0 := by
  induction cs with
  | nil => rfl
  | cons x r ih => unfold lookF; rw [if_neg (h x List.mem_cons_self)]; exact ih (fun p hp => h p (List.mem_cons_of_mem _ hp))
theorem look_at {cs : List (Nat × Nat)} {a k : Nat} (hk : k < cs.length) (hn : ∀ p ∈ cs.take k, p.1 ≠ a) (ha : cs[k].1 = a) : lookF cs a = cs[k].2 := by
  induction cs generalizing k with
  | nil => simp at hk
  | cons x r ih =>
    unfold lookF
    cases k with
    | zero =>
      have ha : x.1 = a := ha
      rw [if_pos ha]
      rfl
    | succ k =>
      rw [if_neg (hn x (by simp))]
      exact ih (by simpa using hk) (fun p hp => hn p (by rw [List.take_succ_cons]; exact List.mem_cons_of_mem _ hp)) ha
theorem rd_cell {W : World} {a : Option Addr} {cs : List (Nat × Nat)} (h : Rd W a (cs.length * 2) (cellsC cs)) {k : Nat} (hk : k < cs.length) : ∃ b off, a = some ⟨b, off, none⟩ ∧ W.cell? ⟨b, off + k * 2, none⟩ = some (.int .u64 (cs[k].1 : Int)) ∧ W.cell? ⟨b, off + k * 2 + 1, none⟩ = some (.int .u8 (cs[k].2 : Int)) := by
  obtain ⟨b, off, e, -, hc⟩ := h.2 (by omega)
  obtain ⟨g1, g2⟩ := cellsC_get cs k hk
  exact ⟨b, off, e, (hc (k * 2) (by omega)).trans g1, by rw [Nat.add_assoc]; exact (hc (k * 2 + 1) (by omega)).trans g2⟩
end Go.Proofs.Ytjefkhieihigiaa

namespace Go.Proofs.Ytjefkhieihigiaa
set_option linter.unusedVariables false
set_option linter.unusedSimpArgs false
open Go.Joins Go.ChangeShapes Go.WideShapes Go.ChangeAt Go.RowKit Go.Deep

theorem cellsC_snoc (l : List (Nat × Nat)) (x y : Nat) : cellsC (l ++ [(x, y)]) = cellsC l ++ [.int .u64 (x : Int), .int .u8 (y : Int)] := by unfold cellsC; rw [List.flatMap_append]; rfl
theorem mks_filter (l : List Nat) (g : Nat) : (l.map (32 * ·)).filter (· != 32 * g) = (l.filter (· != g)).map (32 * ·) := by
  induction l with
  | nil => rfl
  | cons x r ih =>
    rw [List.map_cons]
    by_cases e : x = g
    · subst e
      rw [List.filter_cons_of_neg (by simp), List.filter_cons_of_neg (by simp), ih]
    · rw [List.filter_cons_of_pos (by simp; omega), List.filter_cons_of_pos (by simpa using e), List.map_cons, ih]
/-- the cells behind a byte's setting -/
def setC (cs : List (Nat × Nat)) (a b : Nat) : List (Nat × Nat) := if b = 0 then cs.filter (fun p => p.1 != a) else cs.filter (fun p => p.1 != a) ++ [(a, b)]
theorem look_filter (cs : List (Nat × Nat)) (a x : Nat) : lookF (cs.filter (fun p => p.1 != a)) x = if x = a then 0 else lookF cs x := by
  induction cs with
  | nil => simp [lookF]
  | cons p r ih =>
    by_cases e : p.1 = a
    · rw [List.filter_cons_of_neg (by simpa using e), ih]
      by_cases hx : x = a
      · rw [if_pos hx, if_pos hx]
      · rw [if_neg hx, if_neg hx]
        conv => rhs; unfold lookF
        rw [if_neg (by omega)]
    · rw [List.filter_cons_of_pos (by simpa using e)]
      conv => lhs; unfold lookF
      rw [ih]
      by_cases hx : x = a
      · rw [if_pos hx, if_neg (by omega), if_pos hx]
      · rw [if_neg hx, if_neg hx]
        conv => rhs; unfold lookF
theorem look_append (cs : List (Nat × Nat)) (a b x : Nat) (h : lookF cs x = 0 ∨ x ≠ a) (hn : x = a → ∀ p ∈ cs, p.1 ≠ a) : lookF (cs ++ [(a, b)]) x = if x = a then b else lookF cs x := by
  induction cs with
  | nil =>
    show (if a = x then b else 0) = if x = a then b else 0
    by_cases e : x = a
    · rw [if_pos e, if_pos e.symm]
    · rw [if_neg e, if_neg (fun q => e q.symm)]
  | cons p r ih =>
    rw [List.cons_append]
    conv => lhs; unfold lookF
    by_cases e : x = a
    · have h1 := hn e p List.mem_cons_self
      rw [if_neg (by rw [e]; exact h1), ih (h.imp (fun h => by unfold lookF at h; rwa [if_neg (by rw [e]; exact h1)] at h) id) (fun q y hy => hn q y (List.mem_cons_of_mem _ hy)), if_pos e, if_pos e]
    · rw [ih (Or.inr e) (fun q => absurd q e), if_neg e, if_neg e]
      conv => rhs; unfold lookF
theorem CellsOk.set {cs : List (Nat × Nat)} {m : Mm} (h : CellsOk cs m) {a b : Nat} (ha : a / 256 ∈ m.pgs) (hb : b < 256) : CellsOk (setC cs a b) (wr1 m a b) := by
  have hne : ∀ p ∈ cs.filter (fun p => p.1 != a), p ∈ cs ∧ p.1 ≠ a := fun p hp => by have := List.mem_filter.1 hp; exact ⟨this.1, by simpa using this.2⟩
  have hnd : ((cs.filter (fun p => p.1 != a)).map Prod.fst).Nodup := List.Nodup.sublist (List.Sublist.map _ List.filter_sublist) h.nd
  unfold setC
  by_cases h0 : b = 0
  · rw [if_pos h0]
    refine ⟨fun x => ?_, fun p hp => h.in_ p (hne p hp).1, hnd⟩
    rw [look_filter, h.look]
    show _ = if x = a then b else m.by_ x
    rw [h0]
  · rw [if_neg h0]
    refine ⟨fun x => ?_, fun p hp => ?_, ?_⟩
    · rw [look_append _ a b x (if e : x = a then Or.inl (by rw [look_filter, if_pos e]) else Or.inr e) (fun _ p hp => (hne p hp).2), look_filter, h.look]
      show _ = if x = a then b else m.by_ x
      by_cases e : x = a
      · rw [if_pos e, if_pos e]
      · rw [if_neg e, if_neg e, if_neg e]
    · rcases List.mem_append.1 hp with q | q
      · exact h.in_ p (hne p q).1
      · rw [List.mem_singleton] at q
        subst q
        exact ⟨ha, hb⟩
    · rw [List.map_append]
      refine List.nodup_append.2 ⟨hnd, by simp, fun x hx y hy e => ?_⟩
      obtain ⟨p, hp, rfl⟩ := List.mem_map.1 hx
      simp at hy
      exact (hne p hp).2 (e.trans hy)
theorem own_kp2 {W W' : World} {B k n : Nat} {e : TypeId} {S : Nat → Prop} {v : Value} {xs : List Value} (h : W.ownsRow B e k v n xs) (hk : KP W.heap.size S W W') (hS : ∀ q, B ≤ q → ¬ S q) : W'.ownsRow B e k v n xs := by
  refine ⟨h.1, ?_⟩
  rcases h.2 with h0 | ⟨g, cap, cur, e1, hg, hb, r⟩
  · exact Or.inl h0
  · refine Or.inr ⟨g, cap, cur, e1, hg, ?_, r⟩
    have hl : g < W.heap.size := (Array.getElem?_eq_some_iff.1 hb).1
    exact (hk.block g hl (hS g hg)).trans hb
theorem own_rd {w : World} {B k n c : Nat} {e : TypeId} {a : Option Addr} {xs : List Value} (h : w.ownsRow B e k (.slice a n c) n xs) : Rd w a (n * k) xs := by
  refine ⟨h.1, fun hn => ?_⟩
  rcases h.2 with ⟨e, h0⟩ | ⟨g, cap, cur, hv, _, hg, hnc, _, hs, htake⟩
  · subst h0; simp at hn
  · cases hv
    refine ⟨g, 0, rfl, (Array.getElem?_eq_some_iff.1 hg).1, fun j hj => ?_⟩
    rw [Nat.zero_add]
    exact h.cellAt j hj
theorem rdF_own {W0 W' : World} {F : Nat → Prop} {R B k n c : Nat} {e : TypeId} {a : Option Addr} {xs : List Value} (h : W'.ownsRow B e k (.slice a n c) n xs) (hB : W0.heap.size ≤ B) (hR : R < W0.heap.size) : RdF W' (fun q => F q ∨ (W0.heap.size ≤ q ∧ q < W'.heap.size)) R a (n * k) xs :=
  ⟨own_rd h, fun hn => by
    rcases h.2 with ⟨e, h0⟩ | ⟨g, cap, cur, hv, hg1, hg, -⟩
    · subst h0; simp at hn
    · cases hv
      have hl : g < W'.heap.size := (Array.getElem?_eq_some_iff.1 hg).1
      exact ⟨g, 0, rfl, Or.inr ⟨by omega, hl⟩, by omega⟩⟩
theorem own_base {W : World} {B B' k n : Nat} {e : TypeId} {v : Value} {xs : List Value} (h : W.ownsRow B e k v n xs) (hB : B' ≤ B) : W.ownsRow B' e k v n xs := by
  refine ⟨h.1, ?_⟩
  rcases h.2 with h0 | ⟨g, cap, cur, e1, hg, r⟩
  · exact Or.inl h0
  · exact Or.inr ⟨g, cap, cur, e1, Nat.le_trans hB hg, r⟩
theorem gran_len (l : List Nat) : (l.flatMap fun p => (List.range 8).map fun j => 8 * p + j).length = l.length * 8 := by
  induction l with
  | nil => rfl
  | cons x r ih => rw [List.flatMap_cons, List.length_append, ih, List.length_cons, List.length_map, List.length_range]; omega
theorem mks_len {m : Mm} (h : Okm m) : m.mks.length ≤ 2048 := by
  have h1 := nodup_len (xs := m.mks) (ys := m.pgs.flatMap fun p => (List.range 8).map fun j => 8 * p + j) (h.mr.imp (fun hab e => by omega)) (fun x hx => by
    exact List.mem_flatMap.2 ⟨x / 8, h.ml x hx, List.mem_map.2 ⟨x % 8, List.mem_range.2 (by omega), by omega⟩⟩)
  rw [gran_len] at h1
  have := h.len
  have := h.bud
  omega
end Go.Proofs.Ytjefkhieihigiaa

namespace Go.Proofs.Ytjefkhieihigiaa
set_option linter.unusedVariables false
set_option linter.unusedSimpArgs false
open Go.Joins Go.ChangeShapes Go.WideShapes Go.ChangeAt Go.RowKit Go.Deep

theorem RmAt.mono {W : World} {R : Nat} {F F' : Nat → Prop} {m : Mm} (h : RmAt W R F m) (hf : ∀ b, F b → F' b) (hl : ∀ b, F' b → b < W.heap.size) : RmAt W R F' m := by
  obtain ⟨na, ca, ka, nc, cc, kc, cs, h⟩ := h
  exact ⟨na, ca, ka, nc, cc, kc, cs, h.ok, h.box, h.rn.mono hf, h.rc.mono hf, h.rk.mono hf, h.co, hf _ h.fr, hl⟩
/-- F, and what is new between two worlds -/
def FN (F : Nat → Prop) (W W' : World) : Nat → Prop := fun q => F q ∨ (W.heap.size ≤ q ∧ q < W'.heap.size)
theorem u8s_snoc (l : List Nat) (x : Nat) : u8s (l ++ [x]) = u8s l ++ [.int .u8 (x : Int)] := by simp [u8s]
theorem manyB_succ (m : Mm) (x k : Nat) : manyB m x (k + 1) = manyB m x k ++ [m.by_ (x + k)] := by rw [manyB_add]; rfl
end Go.Proofs.Ytjefkhieihigiaa

namespace Go.Proofs.Ytjefkhieihigiaa
set_option linter.unusedVariables false
set_option linter.unusedSimpArgs false
open Go.Joins Go.ChangeShapes Go.WideShapes Go.ChangeAt Go.RowKit Go.Deep

theorem numE_fits {m : Mm} (hk : Okm m) {a : Nat} {n : Int} (he : numE m a n = 0) : ∃ k : Nat, n = k ∧ 1 ≤ k ∧ k ≤ 8 ∧ a + k ≤ 16777216 ∧ ∀ i, i < k → (a + i) / 256 ∈ m.pgs := by
  rcases num_place (fun _ => 0) m a n with ⟨-, hn, hal, hin, -⟩ | ⟨h, -⟩
  · obtain ⟨k, rfl⟩ : ∃ k : Nat, n = k := ⟨n.toNat, by omega⟩
    rw [Int.toNat_natCast] at hal
    have hp := hk.pl _ hin
    have hkk : k = 1 ∨ k = 2 ∨ k = 4 ∨ k = 8 := by omega
    have hf : a % 256 + k ≤ 256 := by rcases hkk with rfl | rfl | rfl | rfl <;> omega
    exact ⟨k, rfl, by omega, by omega, by omega, fun i hi => by rw [show (a + i) / 256 = a / 256 by omega]; exact hin⟩
  · exact absurd he h
end Go.Proofs.Ytjefkhieihigiaa

namespace Go.Proofs.Ytjefkhieihigiaa
set_option linter.unusedVariables false
set_option linter.unusedSimpArgs false
open Go.Joins Go.ChangeShapes Go.WideShapes Go.ChangeAt Go.RowKit Go.Deep

theorem rmap_step {W U : World} {R : Nat} {F : Nat → Prop} {m : Mm} {na ca ka : Option Addr} {nc cc kc : Nat} {cs : List (Nat × Nat)} (h : RmO W R F m na ca ka nc cc kc cs) {p : Nat} (hp : p ∉ m.pgs) (hp1 : p < 65536) (hl : m.pgs.length < m.bud) (hb : Below W.heap.size W U) {ra : Option Addr} {rc : Nat}
    (ho : U.ownsRow W.heap.size 22 1 (.slice ra (ins p m.pgs).length rc) (ins p m.pgs).length (u64s (ins p m.pgs))) :
    RmAt (U.setCell ⟨R, 0, none⟩ (.slice ra (ins p m.pgs).length rc)) R (FN F W (U.setCell ⟨R, 0, none⟩ (.slice ra (ins p m.pgs).length rc))) (addP m p) ∧ KP W.heap.size F W (U.setCell ⟨R, 0, none⟩ (.slice ra (ins p m.pgs).length rc)) := by
  have hR : R < W.heap.size := h.lt _ h.fr
  have hk : KP W.heap.size (· = R) W (U.setCell ⟨R, 0, none⟩ (.slice ra (ins p m.pgs).length rc)) := (KP.of_below (· = R) hb).set ⟨R, 0, none⟩ (Or.inr rfl) _
  have hbx : BoxN (U.setCell ⟨R, 0, none⟩ (.slice ra (ins p m.pgs).length rc)) R #[.slice ra (ins p m.pgs).length rc, .slice ca cs.length cc, .slice ka m.mks.length kc, .int .i64 (m.bud : Int)] := (boxN_below h.box hb).set 0 (.slice ra (ins p m.pgs).length rc)
  have ho2 := own_kp2 ho (KP.set1 U R 0 (.slice ra (ins p m.pgs).length rc)) (by intro q hq e; have h1 : q = R := e; omega)
  refine ⟨⟨ra, ca, ka, rc, cc, kc, cs, okm_addP h.ok hp hp1 hl, hbx, ?_, ?_, ?_, ⟨h.co.look, fun x hx => ⟨(mem_ins p _ _).2 (Or.inr (h.co.in_ x hx).1), (h.co.in_ x hx).2⟩, h.co.nd⟩, Or.inl h.fr, fun q hq => ?_⟩, hk.mono (Nat.le_refl _) (fun q _ e => by rw [show q = R from e]; exact h.fr)⟩
  · have := rdF_own (F := F) (R := R) ho2 (Nat.le_refl _) hR
    rw [Nat.mul_one] at this
    exact this
  · exact (h.rc.blocks (fun q hf hne => hk.block q (h.lt q hf) hne) hk.size).mono (fun q hf => Or.inl hf)
  · exact (h.rk.blocks (fun q hf hne => hk.block q (h.lt q hf) hne) hk.size).mono (fun q hf => Or.inl hf)
  · rcases hq with hq | hq
    · exact Nat.lt_of_lt_of_le (h.lt q hq) hk.size
    · exact hq.2
theorem fn_step {F : Nat → Prop} {W wr W3 : World} (hW : W.heap.size ≤ wr.heap.size) (h3 : wr.heap.size ≤ W3.heap.size) : ∀ q, FN (FN F W wr) wr W3 q → FN F W W3 q := fun q hq => by
  rcases hq with (hq | hq) | hq
  · exact Or.inl hq
  · exact Or.inr ⟨hq.1, by omega⟩
  · exact Or.inr ⟨by omega, hq.2⟩
end Go.Proofs.Ytjefkhieihigiaa

