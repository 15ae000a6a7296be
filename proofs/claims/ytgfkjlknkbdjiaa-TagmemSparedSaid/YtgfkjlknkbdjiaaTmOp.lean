/- Calls that come in: opened. -/
import Derived.Test.YtgfkjlknkbdjiaaTm1
import Derived.ProofKit
import Derived.Carry
import Derived.ChangeMaps5
import Derived.Deep.Slices
import Derived.Deep.Fields
import Derived.ChangeSame
namespace Go.Proofs.Ytgfkjlknkbdjiaa
set_option linter.unusedVariables false
set_option linter.unusedSimpArgs false
set_option maxRecDepth 100000
open Go.Joins Go.ChangeShapes Go.WideShapes Go.ChangeAt Go.RowKit Go.Deep

theorem list_of {α : Type} {n : Nat} {Q : Nat → α → Prop} (h : ∀ i, i < n → ∃ s, Q i s) : ∃ l : List α, l.length = n ∧ ∀ i (hi : i < l.length), Q i l[i] := by
  induction n with
  | zero => exact ⟨[], rfl, fun i hi => absurd hi (by simp)⟩
  | succ n ih =>
    obtain ⟨l, hl, hq⟩ := ih fun i hi => h i (by omega)
    obtain ⟨s, hs⟩ := h n (by omega)
    refine ⟨l ++ [s], by simp [hl], fun i hi => ?_⟩
    by_cases e : i < l.length
    · rw [List.getElem_append_left e]; exact hq i e
    · have : i = l.length := by simp at hi; omega
      subst this
      rw [List.getElem_append_right (Nat.le_refl _)]
      simp only [Nat.sub_self, List.getElem_cons_zero]
      rw [hl]; exact hs
theorem opCells : Try.prog.cellsOf 53 = 11 := by kernel_rfl
theorem capCells3 : Try.prog.cellsOf 41 = 6 := by kernel_rfl
theorem u8Cells : Try.prog.cellsOf 5 = 1 := by kernel_rfl
theorem flat_len {α : Type} {f : α → List Value} {k : Nat} (hf : ∀ x, (f x).length = k) (l : List α) : (l.flatMap f).length = l.length * k := by
  induction l with
  | nil => simp
  | cons s l ih => rw [List.flatMap_cons, List.length_append, List.length_cons, ih, hf, Nat.succ_mul, Nat.add_comm]
theorem flat_get {α : Type} {f : α → List Value} {k : Nat} (hf : ∀ x, (f x).length = k) (l : List α) (i : Nat) (hi : i < l.length) (j : Nat) (hj : j < k) : (l.flatMap f)[i * k + j]? = (f l[i])[j]? := by
  induction l generalizing i with
  | nil => simp at hi
  | cons s l ih =>
    rw [List.flatMap_cons]
    rcases Nat.eq_zero_or_pos i with rfl | hp
    · rw [List.getElem?_append_left (by rw [hf]; omega)]; simp
    · obtain ⟨i, rfl⟩ : ∃ q, i = q + 1 := ⟨i - 1, by omega⟩
      rw [List.getElem?_append_right (by rw [hf, Nat.succ_mul]; omega), hf, show (i + 1) * k + j - k = i * k + j by rw [Nat.succ_mul]; omega]
      simp only [List.getElem_cons_succ]
      exact ih i (by simpa using hi)
theorem flat_one {α : Type} (g : α → Value) (l : List α) : l.flatMap (fun x => [g x]) = l.map g := by
  induction l with
  | nil => rfl
  | cons x l ih => rw [List.flatMap_cons, ih]; rfl
section
variable {H : Type} {enc : TypeId × Value → H}
theorem six_of {P : Program} {w : World} {base fuel : Nat} {spare : Nat → Bool} {held : Bool} {t : TypeId} {f0 f1 f2 f3 f4 f5 : Field} {cs : List Value} {x : DataW H × List MemPlace}
    (hs : P.underlying t = some (.struct #[f0, f1, f2, f3, f4, f5])) (hone : oneCellFields P #[f0, f1, f2, f3, f4, f5] = true) (hC : P.cellsOf t = 6) (h : DataW.trod enc P w base spare held fuel t cs = some x) :
    ∃ (v0 v1 v2 v3 v4 v5 : Value) (y0 y1 y2 y3 y4 y5 : DataW H × List MemPlace) (n : Nat), cs = [v0, v1, v2, v3, v4, v5] ∧
      DataW.trod enc P w base spare held n f0.type [v0] = some y0 ∧ DataW.trod enc P w base spare held n f1.type [v1] = some y1 ∧ DataW.trod enc P w base spare held n f2.type [v2] = some y2 ∧ DataW.trod enc P w base spare held n f3.type [v3] = some y3 ∧ DataW.trod enc P w base spare held n f4.type [v4] = some y4 ∧ DataW.trod enc P w base spare held n f5.type [v5] = some y5 := by
  obtain ⟨xs, n, _, hx, hcl, hlen, hg⟩ := DataW.trod_struct hs h
  match cs, hcl.trans hC with
  | [c0, c1, c2, c3, c4, c5], _ =>
    obtain ⟨o0, k0⟩ := hone_of hone 0 f0 rfl
    obtain ⟨o1, k1⟩ := hone_of hone 1 f1 rfl
    obtain ⟨o2, k2⟩ := hone_of hone 2 f2 rfl
    obtain ⟨o3, k3⟩ := hone_of hone 3 f3 rfl
    obtain ⟨o4, k4⟩ := hone_of hone 4 f4 rfl
    obtain ⟨o5, k5⟩ := hone_of hone 5 f5 rfl
    match xs, hlen with
    | [y0, y1, y2, y3, y4, y5], _ =>
      exact ⟨c0, c1, c2, c3, c4, c5, y0, y1, y2, y3, y4, y5, n, rfl, by simpa [o0, k0] using hg 0 f0 rfl, by simpa [o1, k1] using hg 1 f1 rfl, by simpa [o2, k2] using hg 2 f2 rfl, by simpa [o3, k3] using hg 3 f3 rfl, by simpa [o4, k4] using hg 4 f4 rfl, by simpa [o5, k5] using hg 5 f5 rfl⟩
theorem mix_of {P : Program} {w : World} {base fuel : Nat} {spare : Nat → Bool} {held : Bool} {t : TypeId} {f0 f1 f2 f3 f4 f5 : Field} {cs : List Value} {x : DataW H × List MemPlace}
    (hs : P.underlying t = some (.struct #[f0, f1, f2, f3, f4, f5])) (hone : f0.offset = 0 ∧ f1.offset = 1 ∧ f2.offset = 2 ∧ f3.offset = 3 ∧ f4.offset = 4 ∧ f5.offset = 10) (hcell : P.cellsOf f0.type = 1 ∧ P.cellsOf f1.type = 1 ∧ P.cellsOf f2.type = 1 ∧ P.cellsOf f3.type = 1 ∧ P.cellsOf f4.type = 6 ∧ P.cellsOf f5.type = 1) (hC : P.cellsOf t = 11) (h : DataW.trod enc P w base spare held fuel t cs = some x) :
    ∃ (v0 v1 v2 v3 v4 v5 v6 v7 v8 v9 v10 : Value) (y0 y1 y2 y3 y4 y5 : DataW H × List MemPlace) (n : Nat), cs = [v0, v1, v2, v3, v4, v5, v6, v7, v8, v9, v10] ∧
      DataW.trod enc P w base spare held n f0.type [v0] = some y0 ∧ DataW.trod enc P w base spare held n f1.type [v1] = some y1 ∧ DataW.trod enc P w base spare held n f2.type [v2] = some y2 ∧ DataW.trod enc P w base spare held n f3.type [v3] = some y3 ∧ DataW.trod enc P w base spare held n f4.type [v4, v5, v6, v7, v8, v9] = some y4 ∧ DataW.trod enc P w base spare held n f5.type [v10] = some y5 := by
  obtain ⟨xs, n, _, hx, hcl, hlen, hg⟩ := DataW.trod_struct hs h
  obtain ⟨o0, o1, o2, o3, o4, o5⟩ := hone
  obtain ⟨k0, k1, k2, k3, k4, k5⟩ := hcell
  match cs, hcl.trans hC with
  | [v0, v1, v2, v3, v4, v5, v6, v7, v8, v9, v10], _ =>
    match xs, hlen with
    | [y0, y1, y2, y3, y4, y5], _ =>
      exact ⟨v0, v1, v2, v3, v4, v5, v6, v7, v8, v9, v10, y0, y1, y2, y3, y4, y5, n, rfl, by simpa [o0, k0] using hg 0 f0 rfl, by simpa [o1, k1] using hg 1 f1 rfl, by simpa [o2, k2] using hg 2 f2 rfl, by simpa [o3, k3] using hg 3 f3 rfl, by simpa [o4, k4] using hg 4 f4 rfl, by simpa [o5, k5] using hg 5 f5 rfl⟩
/-- a slice of elements of k cells -/
theorem rows_of {α : Type} {f : α → List Value} {Q : α → Prop} {k : Nat} {sl el : TypeId} {w : World} (hf : ∀ x, (f x).length = k) (hk : 0 < k) (hu : Try.prog.underlying sl = some (.slice el)) (hce : Try.prog.cellsOf el = k)
    (hone : ∀ n cs (x : DataW H × List MemPlace), DataW.trod enc Try.prog w 0 (fun _ => true) true n el cs = some x → ∃ e : α, cs = f e ∧ Q e) {fuel : Nat} {v : Value} {x : DataW H × List MemPlace} (h : DataW.trod enc Try.prog w 0 (fun _ => true) true fuel sl [v] = some x) :
    ∃ (a : Option Addr) (c : Nat) (l : List α), v = .slice a l.length c ∧ Rd w a (l.length * k) (l.flatMap f) ∧ (∀ e ∈ l, Q e) ∧ l.length ≤ maxLen ∧ l.length ≤ c := by
  rcases open_slice hu h with ⟨hcs, -⟩ | ⟨a, len', cap', m, n, D, Pl, hcs, -, hl, hm, hmm, -, hi⟩
  · simp at hcs
    subst hcs
    exact ⟨none, 0, [], rfl, ⟨by simp, fun h => absurd h (by simp)⟩, by simp, Nat.zero_le _, Nat.zero_le _⟩
  · simp at hcs
    subst hcs
    simp only [if_true] at hmm
    subst hmm
    rw [hce] at hi
    obtain ⟨l, hll, hq⟩ := list_of (n := len') (Q := fun i (e : α) => w.cells? 0 (a.add (i * k)) k = some (f e) ∧ Q e) fun i hin => by
      obtain ⟨cs', hc, ht⟩ := hi i (by omega)
      obtain ⟨e, rfl, he⟩ := hone _ _ _ ht
      exact ⟨e, hc, he⟩
    have hcell : ∀ i (hi : i < l.length) j, j < k → w.cell? (a.add (i * k + j)) = (f l[i])[j]? := fun i hi' j hj => by
      obtain ⟨hc, -⟩ := hq i hi'
      obtain ⟨_, hcl, hat⟩ := World.cells?_some hc
      have := hat j hj
      rwa [Go.Deep.add_add] at this
    refine ⟨some a, _, l, by rw [hll], ⟨flat_len hf l, fun h0 => ?_⟩, fun e he => ?_, by omega, by omega⟩
    · have hl0 : 0 < l.length := Nat.pos_of_mul_pos_right h0
      obtain ⟨b, off, spot⟩ := a
      have c0 := hcell 0 hl0 0 hk
      obtain ⟨u, hu0⟩ : ∃ u, (f l[0])[0]? = some u := ⟨(f l[0])[0]'(by rw [hf]; exact hk), List.getElem?_eq_getElem _⟩
      rw [hu0] at c0
      have hspot : spot = none := by simpa [Addr.add] using World.cell?_spot c0
      subst hspot
      refine ⟨b, off, rfl, ?_, fun q hq2 => ?_⟩
      · have := heap_lt_of_cell c0
        rwa [add_plain] at this
      · have hi2 : q / k < l.length := Nat.div_lt_of_lt_mul (by rw [Nat.mul_comm]; exact hq2)
        have hj2 : q % k < k := Nat.mod_lt _ hk
        have h1 := hcell (q / k) hi2 (q % k) hj2
        have h2 := flat_get hf l (q / k) hi2 (q % k) hj2
        rw [show q / k * k + q % k = q by rw [Nat.mul_comm]; exact Nat.div_add_mod q k] at h1 h2
        rw [h2, ← h1, add_plain]
    · obtain ⟨i, hi', rfl⟩ := List.getElem_of_mem he
      exact (hq i hi').2
theorem wf_u8 {n : Int} (h : (Lit.int .u8 n).wf = true) : 0 ≤ n ∧ n < 256 := by
  simp [Lit.wf, IntKind.min, IntKind.max, IntKind.signed, IntKind.bits] at h
  omega
theorem wf_u64' {x : Int} (h : (Lit.int .u64 x).wf = true) : 0 ≤ x ∧ x < 18446744073709551616 := by
  simp [Lit.wf, IntKind.min, IntKind.max, IntKind.signed, IntKind.bits] at h; omega
theorem wf_i64' {x : Int} (h : (Lit.int .i64 x).wf = true) : -9223372036854775808 ≤ x ∧ x < 9223372036854775808 := by
  simp [Lit.wf, IntKind.min, IntKind.max, IntKind.signed, IntKind.bits] at h; omega
theorem max_lt3 {n : Nat} (h : n ≤ maxLen) : n < 9223372036854775808 := by unfold maxLen at h; omega
theorem bytes_of3 {w : World} {fuel : Nat} {v : Value} {x : DataW H × List MemPlace} (h : DataW.trod enc Try.prog w 0 (fun _ => true) true fuel 51 [v] = some x) :
    ∃ (a : Option Addr) (c : Nat) (l : List Nat), v = .slice a l.length c ∧ Rd w a l.length (u8s l) ∧ (∀ b ∈ l, b < 256) ∧ l.length ≤ maxLen ∧ l.length ≤ c := by
  obtain ⟨a, c, l, rfl, hr, hq, hm, hc⟩ := rows_of (f := fun b : Nat => [Value.int .u8 (b : Int)]) (Q := fun b => b < 256) (fun _ => rfl) (by decide) Try.underlying51 u8Cells (fun n cs x ht => by
    obtain ⟨z, rfl, -, k0⟩ := DataW.trod_int Try.underlying5 ht
    obtain ⟨h0, h1⟩ := wf_u8 k0
    refine ⟨z.toNat, ?_, by omega⟩
    rw [Int.toNat_of_nonneg h0]) h
  rw [flat_one, Nat.mul_one] at hr
  exact ⟨a, c, l, rfl, hr, hq, hm, hc⟩
theorem op_of {w : World} {fuel : Nat} {cs : List Value} {x : DataW H × List MemPlace} (h : DataW.trod enc Try.prog w 0 (fun _ => true) true fuel 53 cs = some x) :
    ∃ o : Opr, cs = (opC o).toList ∧ FitO w w.heap.size o := by
  obtain ⟨v0, v1, v2, v3, v4, v5, v6, v7, v8, v9, v10, y0, y1, y2, y3, y4, y5, n, rfl, h0, h1, h2, h3, h4, h5⟩ := mix_of Try.underlying53 ⟨rfl, rfl, rfl, rfl, rfl, rfl⟩ ⟨by kernel_rfl, by kernel_rfl, by kernel_rfl, by kernel_rfl, by kernel_rfl, by kernel_rfl⟩ opCells h
  obtain ⟨d, e0, -, k0⟩ := DataW.trod_int Try.underlying3 h0
  obtain ⟨a, e1, -, k1⟩ := DataW.trod_int Try.underlying39 h1
  obtain ⟨m, e2, -, k2⟩ := DataW.trod_int Try.underlying3 h2
  obtain ⟨u, e3, -, k3⟩ := DataW.trod_int Try.underlying39 h3
  obtain ⟨c0, c1, c2, c3, c4, c5, z0, z1, z2, z3, z4, z5, n2, hcs, g0, g1, g2, g3, g4, g5⟩ := six_of Try.underlying41 (by kernel_rfl) capCells3 h4
  obtain ⟨cb, i0, -, l0⟩ := DataW.trod_int Try.underlying39 g0
  obtain ⟨ct, i1, -, l1⟩ := DataW.trod_int Try.underlying39 g1
  obtain ⟨ca, i2, -, l2⟩ := DataW.trod_int Try.underlying39 g2
  obtain ⟨cp, i3, -, l3⟩ := DataW.trod_int Try.underlying3 g3
  obtain ⟨cy, i4, -, l4⟩ := DataW.trod_int Try.underlying3 g4
  obtain ⟨cg, i5, -⟩ := DataW.trod_bool Try.underlying4 g5
  obtain ⟨ba, bc, l, rfl, hr, hq, hm, hc⟩ := bytes_of3 h5
  cases e0; cases e1; cases e2; cases e3; cases i0; cases i1; cases i2; cases i3; cases i4; cases i5; cases hcs
  obtain ⟨a0, a1⟩ := wf_u64' k1
  obtain ⟨m0, m1⟩ := wf_i64' k2
  obtain ⟨u0, u1⟩ := wf_u64' k3
  obtain ⟨b0, b1⟩ := wf_u64' l0
  obtain ⟨t0, t1⟩ := wf_u64' l1
  obtain ⟨s0, s1⟩ := wf_u64' l2
  refine ⟨⟨d, a.toNat, m, u, ⟨cb, ct, ca, cp, cy, cg⟩, l, ba, bc⟩, ?_, ⟨by show a.toNat < _; omega, m0, m1, u0, u1, ⟨b0, b1, t0, t1, s0, s1⟩, hq, hc, max_lt3 hm, hr, fun hn g off e => ?_⟩⟩
  · unfold opC
    rw [Int.toNat_of_nonneg a0]
  · obtain ⟨b, o, e', hl, -⟩ := hr.2 hn
    have e2 : ba = some ⟨g, off, none⟩ := e
    rw [e2] at e'
    cases e'
    exact hl
theorem opC_len (o : Opr) : (opC o).toList.length = 11 := rfl
theorem open_ops3 {W : World} {v : Value} {d : DataW H} {p : List MemPlace} {a0 : Option Addr} {len cap : Nat} (hv : v = .slice a0 len cap)
    (h : DataW.Trod enc Try.prog W 0 (fun _ => true) true 22 v d p) :
    ∃ l : List Opr, l.length = len ∧ RdP W W.heap.size a0 l ∧ len ≤ maxLen ∧ len ≤ cap := by
  subst hv
  obtain ⟨fuel, hf⟩ := h
  have hf' : DataW.trod enc Try.prog W 0 (fun _ => true) true fuel 22 [.slice a0 len cap] = some _ := hf
  obtain ⟨a, c, l, e, hr, hq, hm, hc⟩ := rows_of (f := fun o : Opr => (opC o).toList) (Q := fun o => FitO W W.heap.size o) opC_len (by decide) Try.underlying22 opCells (fun n cs x ht => op_of ht) hf'
  cases e
  refine ⟨l, rfl, ⟨hq, fun h0 => ?_⟩, hm, hc⟩
  obtain ⟨b, off, e, hl, hcell⟩ := hr.2 (by omega)
  refine ⟨b, off, e, hl, hl, fun i hi j hj => ?_⟩
  have h1 := hcell (i * 11 + j) (by omega)
  rw [flat_get opC_len l i hi j hj, Array.getElem?_toList, ← Nat.add_assoc] at h1
  exact h1
theorem open_op3 {W : World} {base : Nat} {r : Reach} {v : Value} {d : DataW H} {p : List MemPlace} (hv : Value.okWide Try.prog W r base 53 v)
    (h : DataW.Trod enc Try.prog W 0 (fun _ => true) true 53 v d p) : ∃ o : Opr, v = .agg (opC o) ∧ FitO W W.heap.size o := by
  obtain ⟨cs, rfl, hsz⟩ := okWide_struct Try.underlying53 hv
  obtain ⟨fuel, hf⟩ := h
  obtain ⟨o, e, hq⟩ := op_of hf
  simp only [Value.cells] at e
  exact ⟨o, by rw [← Array.toList_inj.1 e], hq⟩
theorem open_bytes3 {W : World} {v : Value} {d : DataW H} {p : List MemPlace} {a0 : Option Addr} {len cap : Nat} (hv : v = .slice a0 len cap)
    (h : DataW.Trod enc Try.prog W 0 (fun _ => true) true 51 v d p) :
    ∃ l : List Nat, l.length = len ∧ Rd W a0 l.length (u8s l) ∧ (∀ b ∈ l, b < 256) ∧ len ≤ maxLen ∧ len ≤ cap := by
  subst hv
  obtain ⟨fuel, hf⟩ := h
  have hf' : DataW.trod enc Try.prog W 0 (fun _ => true) true fuel 51 [.slice a0 len cap] = some _ := hf
  obtain ⟨a, c, l, e, hr, hq, hm, hc⟩ := bytes_of3 hf'
  cases e
  exact ⟨l, rfl, hr, hq, hm, hc⟩
/-- all arguments read behind a call that makes new blocks alone as they read before -/
theorem trodAll_stays {P : Program} (hl : laidOutB P = true) {W W' : World} (hb : Below W.heap.size W W') {sp : Nat → Bool} :
    ∀ {ts : List TypeId} {vs : List Value} {ds : List (DataW H)} {p : List MemPlace}, (ts.all fun t => P.readableRec t && decide (t < P.types.size)) = true →
      DataW.TrodAll enc P W 0 (fun _ => true) true ts vs ds p → (∀ x ∈ p, x.block < W.heap.size) → (∀ x ∈ p, sp x.block = true) → DataW.TrodAll enc P W' 0 sp true ts vs ds p
  | [], [], [], _, _, h, _, _ => h
  | t :: ts, v :: vs, d :: ds, _, hr, h, hlt, hs => by
    obtain ⟨p, q, h1, h2, rfl⟩ := h
    simp only [List.all_cons, Bool.and_eq_true, decide_eq_true_eq] at hr
    exact ⟨p, q, WideElems.Trod_stays hl hr.1.1 hr.1.2 h1 (fun x hx => hb.same (hlt x (List.mem_append_left _ hx))) (fun x hx => hs x (List.mem_append_left _ hx)),
      trodAll_stays hl hb hr.2 h2 (fun x hx => hlt x (List.mem_append_right _ hx)) (fun x hx => hs x (List.mem_append_right _ hx)), rfl⟩
  | [], [], _ :: _, _, _, h, _, _ => h.elim
  | [], _ :: _, _, _, _, h, _, _ => h.elim
  | _ :: _, [], _, _, _, h, _, _ => h.elim
  | _ :: _, _ :: _, [], _, _, h, _, _ => h.elim

end
end Go.Proofs.Ytgfkjlknkbdjiaa
