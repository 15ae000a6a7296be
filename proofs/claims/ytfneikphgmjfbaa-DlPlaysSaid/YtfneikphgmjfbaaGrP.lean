/- What comes in: objects, numbers, texts; and all arguments read again behind a call that makes new blocks alone. -/
import Derived.Test.YtfneikphgmjfbaaGrA
import Derived.ProofKit
import Derived.Carry
import Derived.ChangeMaps5
import Derived.Deep.Slices
import Derived.Deep.Fields
import Derived.ChangeSame
namespace Go.Proofs.Ytfneikphgmjfbaa
set_option linter.unusedVariables false
set_option linter.unusedSimpArgs false
open Go.Joins Go.ChangeShapes Go.WideShapes Go.ChangeAt Go.RowKit Go.Deep

theorem bytes_eta (s : ByteArray) : (⟨s.data.toList.toArray⟩ : ByteArray) = s := by cases s; simp
theorem list_of {α : Type} {n : Nat} {Q : Nat → α → Prop} (h : ∀ i, i < n → ∃ s, Q i s) : ∃ l : List α, l.length = n ∧ ∀ i (hi : i < l.length), Q i l[i] := by
  induction n with
  | zero => exact ⟨[], rfl, fun i hi => absurd hi (by simp)⟩
  | succ n ih =>
    obtain ⟨l, hl, hq⟩ := ih fun i hi => h i (by omega)
    obtain ⟨s, hs⟩ := h n (by omega)
    refine ⟨l ++ [s], by simp [hl], fun i hi => ?_⟩
    by_cases e : i < l.length
    · rw [List.getElem_append_left e]; exact hq i e
    · have : i = l.length := by simp at hi; omega
      subst this
      rw [List.getElem_append_right (Nat.le_refl _)]
      simp only [Nat.sub_self, List.getElem_cons_zero]
      rw [hl]; exact hs
theorem objCells : Try.prog.cellsOf 54 = 7 := by kernel_rfl
theorem strCells : Try.prog.cellsOf 9 = 1 := by kernel_rfl
theorem intCells : Try.prog.cellsOf 3 = 1 := by kernel_rfl
section
variable {H : Type} {enc : TypeId × Value → H}
theorem seven_of {P : Program} {w : World} {base fuel : Nat} {spare : Nat → Bool} {held : Bool} {t : TypeId} {f0 f1 f2 f3 f4 f5 f6 : Field} {cs : List Value} {x : DataW H × List MemPlace}
    (hs : P.underlying t = some (.struct #[f0, f1, f2, f3, f4, f5, f6])) (hone : oneCellFields P #[f0, f1, f2, f3, f4, f5, f6] = true) (hC : P.cellsOf t = 7) (h : DataW.trod enc P w base spare held fuel t cs = some x) :
    ∃ (v0 v1 v2 v3 v4 v5 v6 : Value) (y0 y1 y2 y3 y4 y5 y6 : DataW H × List MemPlace) (n : Nat), cs = [v0, v1, v2, v3, v4, v5, v6] ∧ x = (.agg [y0.1, y1.1, y2.1, y3.1, y4.1, y5.1, y6.1], y0.2 ++ (y1.2 ++ (y2.2 ++ (y3.2 ++ (y4.2 ++ (y5.2 ++ (y6.2))))))) ∧
      DataW.trod enc P w base spare held n f0.type [v0] = some y0 ∧ DataW.trod enc P w base spare held n f1.type [v1] = some y1 ∧ DataW.trod enc P w base spare held n f2.type [v2] = some y2 ∧ DataW.trod enc P w base spare held n f3.type [v3] = some y3 ∧ DataW.trod enc P w base spare held n f4.type [v4] = some y4 ∧ DataW.trod enc P w base spare held n f5.type [v5] = some y5 ∧ DataW.trod enc P w base spare held n f6.type [v6] = some y6 := by
  obtain ⟨xs, n, _, hx, hcl, hlen, hg⟩ := DataW.trod_struct hs h
  match cs, hcl.trans hC with
  | [c0, c1, c2, c3, c4, c5, c6], _ =>
    obtain ⟨o0, k0⟩ := hone_of hone 0 f0 rfl
    obtain ⟨o1, k1⟩ := hone_of hone 1 f1 rfl
    obtain ⟨o2, k2⟩ := hone_of hone 2 f2 rfl
    obtain ⟨o3, k3⟩ := hone_of hone 3 f3 rfl
    obtain ⟨o4, k4⟩ := hone_of hone 4 f4 rfl
    obtain ⟨o5, k5⟩ := hone_of hone 5 f5 rfl
    obtain ⟨o6, k6⟩ := hone_of hone 6 f6 rfl
    match xs, hlen with
    | [y0, y1, y2, y3, y4, y5, y6], _ =>
      exact ⟨c0, c1, c2, c3, c4, c5, c6, y0, y1, y2, y3, y4, y5, y6, n, rfl, by simpa using hx, by simpa [o0, k0] using hg 0 f0 rfl, by simpa [o1, k1] using hg 1 f1 rfl, by simpa [o2, k2] using hg 2 f2 rfl, by simpa [o3, k3] using hg 3 f3 rfl, by simpa [o4, k4] using hg 4 f4 rfl, by simpa [o5, k5] using hg 5 f5 rfl, by simpa [o6, k6] using hg 6 f6 rfl⟩
theorem cell_of_cells {W : World} {a : Addr} {i : Nat} {v : Value} (h : W.cells? 0 (a.add (i * 1)) 1 = some [v]) : W.cell? (a.add i) = some v := by
  obtain ⟨_, hcl, hat⟩ := World.cells?_some h
  have := hat 0 (by decide)
  rw [Go.Deep.add_add] at this
  simpa using this
/-- a slice of texts -/
theorem texts_of {w : World} {fuel : Nat} {v : Value} {x : DataW H × List MemPlace} (h : DataW.trod enc Try.prog w 0 (fun _ => true) true fuel 49 [v] = some x) :
    ∃ (na : Option Addr) (nc : Nat) (l : List (List UInt8)), v = .slice na l.length nc ∧ Rd w na l.length (txs l) ∧ (∀ t ∈ l, t.length ≤ maxLen) ∧ l.length ≤ maxLen := by
  rcases open_slice Try.underlying49 h with ⟨hcs, -⟩ | ⟨a, len', cap', m, n, D, Pl, hcs, -, hl, hm, hmm, -, hi⟩
  · simp at hcs
    subst hcs
    exact ⟨none, 0, [], rfl, Rd.nil _ _, by simp, Nat.zero_le _⟩
  · simp at hcs
    subst hcs
    simp only [if_true] at hmm
    subst hmm
    rw [strCells] at hi
    obtain ⟨l, hll, hq⟩ := list_of (n := len') (Q := fun i (t : List UInt8) => w.cell? (a.add i) = some (.string ⟨t.toArray⟩) ∧ t.length ≤ maxLen) fun i hin => by
      obtain ⟨cs', hc, ht⟩ := hi i (by omega)
      obtain ⟨nm, e0, -, k0⟩ := DataW.trod_string Try.underlying9 ht
      subst e0
      exact ⟨nm.data.toList, by rw [bytes_eta]; exact cell_of_cells hc, by simpa using k0⟩
    refine ⟨some a, _, l, by rw [hll], ⟨txs_length l, fun h0 => ?_⟩, fun t ht => ?_, by omega⟩
    · obtain ⟨b, off, spot⟩ := a
      have c0 := (hq 0 h0).1
      have hspot : spot = none := by simpa [Addr.add] using World.cell?_spot c0
      subst hspot
      refine ⟨b, off, rfl, ?_, fun k hk => ?_⟩
      · have := heap_lt_of_cell c0
        rwa [add_plain] at this
      · rw [txs_get l k hk, ← (hq k hk).1, add_plain]
    · obtain ⟨i, hi', rfl⟩ := List.getElem_of_mem ht
      exact (hq i hi').2
/-- a slice that nobody looks into -/
theorem slice_of {w : World} {base fuel : Nat} {spare : Nat → Bool} {held : Bool} {t e : TypeId} {v : Value} {x : DataW H × List MemPlace} (ht : Try.prog.underlying t = some (.slice e)) (h : DataW.trod enc Try.prog w base spare held fuel t [v] = some x) :
    ∃ (a : Option Addr) (n c : Nat), v = .slice a n c := by
  rcases DataW.trod_slice ht h with ⟨hcs, -⟩ | ⟨a, len, cap, elems, rest, n, -, hcs, -⟩
  · simp at hcs; exact ⟨_, _, _, hcs⟩
  · simp at hcs; exact ⟨_, _, _, hcs⟩
/-- seven cells that read as an object are one -/
theorem obj_of {w : World} {fuel : Nat} {cs : List Value} {x : DataW H × List MemPlace} (h : DataW.trod enc Try.prog w 0 (fun _ => true) true fuel 54 cs = some x) :
    ∃ o : Obj, cs = objC o ∧ Rd w o.na o.needs.length (txs o.needs) ∧ (o.name.length ≤ maxLen ∧ ∀ n ∈ o.needs, n.length ≤ maxLen) ∧ o.needs.length ≤ maxLen := by
  obtain ⟨v0, v1, v2, v3, v4, v5, v6, y0, y1, y2, y3, y4, y5, y6, n, rfl, rfl, h0, h1, h2, h3, h4, h5, h6⟩ := seven_of Try.underlying54 (by kernel_rfl) objCells h
  obtain ⟨nm, e0, -, k0⟩ := DataW.trod_string Try.underlying9 h0
  cases e0
  obtain ⟨na, nc, l, rfl, hr, hn, hm⟩ := texts_of h1
  obtain ⟨a2, n2, c2, rfl⟩ := slice_of Try.underlying50 h2
  obtain ⟨a3, n3, c3, rfl⟩ := slice_of Try.underlying51 h3
  obtain ⟨a4, n4, c4, rfl⟩ := slice_of Try.underlying52 h4
  obtain ⟨a5, n5, c5, rfl⟩ := slice_of Try.underlying26 h5
  obtain ⟨a6, n6, c6, rfl⟩ := slice_of Try.underlying26 h6
  refine ⟨⟨nm.data.toList, l, na, nc, a2, n2, c2, a3, n3, c3, a4, n4, c4, a5, n5, c5, a6, n6, c6⟩, ?_, hr, ⟨by simpa using k0, hn⟩, hm⟩
  simp only [objC, bytes_eta]
/-- a slice of objects as it comes in -/
theorem open_objs {W : World} {v : Value} {d : DataW H} {p : List MemPlace} {a0 : Option Addr} {len cap : Nat} (hv : v = .slice a0 len cap)
    (h : DataW.Trod enc Try.prog W 0 (fun _ => true) true 22 v d p) :
    ∃ l : List Obj, l.length = len ∧ RdO W a0 l ∧ ((∀ o ∈ l, o.name.length ≤ maxLen ∧ ∀ n ∈ o.needs, n.length ≤ maxLen) ∧ ∀ o ∈ l, o.needs.length ≤ maxLen) ∧ len ≤ maxLen := by
  subst hv
  obtain ⟨fuel, hf⟩ := h
  rcases open_slice Try.underlying22 hf with ⟨hcs, -⟩ | ⟨a, len', cap', m, n, D, Pl, hcs, -, hl, hm, hmm, -, hi⟩
  · simp [Value.cells] at hcs
    obtain ⟨rfl, rfl, rfl⟩ := hcs
    exact ⟨[], rfl, ⟨fun h => absurd h (by simp), by simp⟩, ⟨by simp, by simp⟩, Nat.zero_le _⟩
  · simp [Value.cells] at hcs
    obtain ⟨rfl, rfl, rfl⟩ := hcs
    simp only [if_true] at hmm
    subst hmm
    rw [objCells] at hi
    obtain ⟨l, hll, hq⟩ := list_of (n := len) (Q := fun i (o : Obj) => W.cells? 0 (a.add (i * 7)) 7 = some (objC o) ∧ Rd W o.na o.needs.length (txs o.needs) ∧ (o.name.length ≤ maxLen ∧ ∀ n ∈ o.needs, n.length ≤ maxLen) ∧ o.needs.length ≤ maxLen) fun i hin => by
      obtain ⟨cs', hc, ht⟩ := hi i (by omega)
      obtain ⟨o, rfl, k0, k1, k2⟩ := obj_of ht
      exact ⟨o, hc, k0, k1, k2⟩
    refine ⟨l, hll, ⟨fun h0 => ?_, fun o ho => ?_⟩, ⟨fun o ho => ?_, fun o ho => ?_⟩, by omega⟩
    · obtain ⟨b, off, spot⟩ := a
      have hcell : ∀ i (hi : i < l.length) j, j < 7 → W.cell? ((⟨b, off, spot⟩ : Addr).add (i * 7 + j)) = (objC l[i])[j]? := fun i hi' j hj => by
        obtain ⟨hc, -⟩ := hq i hi'
        obtain ⟨_, hcl, hat⟩ := World.cells?_some hc
        have := hat j hj
        rwa [Go.Deep.add_add] at this
      have c0 := hcell 0 h0 0 (by decide)
      have c0' : W.cell? ((⟨b, off, spot⟩ : Addr).add (0 * 7 + 0)) = some (.string ⟨l[0].name.toArray⟩) := c0
      have hspot : spot = none := by simpa [Addr.add] using World.cell?_spot c0'
      subst hspot
      refine ⟨b, off, rfl, fun k hk => ?_⟩
      have g : ∀ j, j < 7 → W.cell? ⟨b, off + k * 7 + j, none⟩ = (objC l[k])[j]? := fun j hj => by
        have := hcell k hk j hj
        rw [add_plain] at this
        rw [Nat.add_assoc]; exact this
      exact ⟨g 0 (by decide), g 1 (by decide), g 2 (by decide), g 3 (by decide), g 4 (by decide), g 5 (by decide), g 6 (by decide)⟩
    · obtain ⟨i, hi', rfl⟩ := List.getElem_of_mem ho
      exact (hq i hi').2.1
    · obtain ⟨i, hi', rfl⟩ := List.getElem_of_mem ho
      exact (hq i hi').2.2.1
    · obtain ⟨i, hi', rfl⟩ := List.getElem_of_mem ho
      exact (hq i hi').2.2.2
/-- a slice of numbers as it comes in -/
theorem open_nums {W : World} {v : Value} {d : DataW H} {p : List MemPlace} {a0 : Option Addr} {len cap : Nat} (hv : v = .slice a0 len cap)
    (h : DataW.Trod enc Try.prog W 0 (fun _ => true) true 26 v d p) :
    ∃ l : List Int, l.length = len ∧ Rd W a0 l.length (i64s l) ∧ len ≤ maxLen := by
  subst hv
  obtain ⟨fuel, hf⟩ := h
  rcases open_slice Try.underlying26 hf with ⟨hcs, -⟩ | ⟨a, len', cap', m, n, D, Pl, hcs, -, hl, hm, hmm, -, hi⟩
  · simp [Value.cells] at hcs
    obtain ⟨rfl, rfl, rfl⟩ := hcs
    exact ⟨[], rfl, Rd.nil _ _, Nat.zero_le _⟩
  · simp [Value.cells] at hcs
    obtain ⟨rfl, rfl, rfl⟩ := hcs
    simp only [if_true] at hmm
    subst hmm
    rw [intCells] at hi
    obtain ⟨l, hll, hq⟩ := list_of (n := len) (Q := fun i (z : Int) => W.cell? (a.add i) = some (.int .i64 z)) fun i hin => by
      obtain ⟨cs', hc, ht⟩ := hi i (by omega)
      obtain ⟨z, e0, -, k0⟩ := DataW.trod_int Try.underlying3 ht
      subst e0
      exact ⟨z, cell_of_cells hc⟩
    refine ⟨l, hll, ⟨i64s_length l, fun h0 => ?_⟩, by omega⟩
    obtain ⟨b, off, spot⟩ := a
    have c0 := hq 0 h0
    have hspot : spot = none := by simpa [Addr.add] using World.cell?_spot c0
    subst hspot
    refine ⟨b, off, rfl, ?_, fun k hk => ?_⟩
    · have := heap_lt_of_cell c0
      rwa [add_plain] at this
    · rw [i64s_get l k hk, ← hq k hk, add_plain]
/-- all arguments read behind a call that makes new blocks alone as they read before -/
theorem trodAll_stays {P : Program} (hl : laidOutB P = true) {W W' : World} (hb : Below W.heap.size W W') {sp : Nat → Bool} :
    ∀ {ts : List TypeId} {vs : List Value} {ds : List (DataW H)} {p : List MemPlace}, (ts.all fun t => P.readableRec t && decide (t < P.types.size)) = true →
      DataW.TrodAll enc P W 0 (fun _ => true) true ts vs ds p → (∀ x ∈ p, x.block < W.heap.size) → (∀ x ∈ p, sp x.block = true) → DataW.TrodAll enc P W' 0 sp true ts vs ds p
  | [], [], [], _, _, h, _, _ => h
  | t :: ts, v :: vs, d :: ds, _, hr, h, hlt, hs => by
    obtain ⟨p, q, h1, h2, rfl⟩ := h
    simp only [List.all_cons, Bool.and_eq_true, decide_eq_true_eq] at hr
    exact ⟨p, q, WideElems.Trod_stays hl hr.1.1 hr.1.2 h1 (fun x hx => hb.same (hlt x (List.mem_append_left _ hx))) (fun x hx => hs x (List.mem_append_left _ hx)),
      trodAll_stays hl hb hr.2 h2 (fun x hx => hlt x (List.mem_append_right _ hx)) (fun x hx => hs x (List.mem_append_right _ hx)), rfl⟩
  | [], [], _ :: _, _, _, h, _, _ => h.elim
  | [], _ :: _, _, _, _, h, _, _ => h.elim
  | _ :: _, [], _, _, _, h, _, _ => h.elim
  | _ :: _, _ :: _, [], _, _, h, _, _ => h.elim

end
end Go.Proofs.Ytfneikphgmjfbaa
