/- What comes in: symbols, slices of symbols, texts; and all arguments read again behind a call that makes new blocks alone. -/
import Derived.Test.YthammjpadbbflaaHasE
import Derived.ProofKit
import Derived.Carry
import Derived.ChangeMaps5
import Derived.Deep.Slices
import Derived.Deep.Fields
import Derived.ChangeSame
namespace Go.Proofs.Ythammjpadbbflaa
set_option linter.unusedVariables false
set_option maxRecDepth 100000
set_option linter.unusedSimpArgs false
open Go.Joins Go.ChangeShapes Go.WideShapes Go.ChangeAt Go.RowKit Go.Deep

theorem bytes_eta (s : ByteArray) : (⟨s.data.toList.toArray⟩ : ByteArray) = s := by cases s; simp
theorem list_of {α : Type} {n : Nat} {Q : Nat → α → Prop} (h : ∀ i, i < n → ∃ s, Q i s) : ∃ l : List α, l.length = n ∧ ∀ i (hi : i < l.length), Q i l[i] := by
  induction n with
  | zero => exact ⟨[], rfl, fun i hi => absurd hi (by simp)⟩
  | succ n ih =>
    obtain ⟨l, hl, hq⟩ := ih fun i hi => h i (by omega)
    obtain ⟨s, hs⟩ := h n (by omega)
    refine ⟨l ++ [s], by simp [hl], fun i hi => ?_⟩
    by_cases e : i < l.length
    · rw [List.getElem_append_left e]; exact hq i e
    · have : i = l.length := by simp at hi; omega
      subst this
      rw [List.getElem_append_right (Nat.le_refl _)]
      simp only [Nat.sub_self, List.getElem_cons_zero]
      rw [hl]; exact hs
theorem symCells : Try.prog.cellsOf 45 = 8 := by kernel_rfl

theorem str_lt {s : ByteArray} (h : s.size ≤ maxLen) : s.data.toList.length < 9223372036854775808 := by
  have e : s.data.toList.length = s.size := by simp
  unfold maxLen at h; omega
theorem names_lt {l : List Sym} (h : ∀ s ∈ l, s.name.length ≤ maxLen ∧ s.ver.length ≤ maxLen) : ∀ s ∈ l, s.name.length < 9223372036854775808 := fun s hs => by
  have := (h s hs).1
  unfold maxLen at this; omega
theorem max_le {n : Nat} (h : n ≤ maxLen) : n ≤ 9223372036854775807 := by unfold maxLen at h; omega
section
variable {H : Type} {enc : TypeId × Value → H}
theorem eight_of {P : Program} {w : World} {base fuel : Nat} {spare : Nat → Bool} {held : Bool} {t : TypeId} {f0 f1 f2 f3 f4 f5 f6 f7 : Field} {cs : List Value} {x : DataW H × List MemPlace}
    (hs : P.underlying t = some (.struct #[f0, f1, f2, f3, f4, f5, f6, f7])) (hone : oneCellFields P #[f0, f1, f2, f3, f4, f5, f6, f7] = true) (hC : P.cellsOf t = 8) (h : DataW.trod enc P w base spare held fuel t cs = some x) :
    ∃ (v0 v1 v2 v3 v4 v5 v6 v7 : Value) (y0 y1 y2 y3 y4 y5 y6 y7 : DataW H × List MemPlace) (n : Nat), cs = [v0, v1, v2, v3, v4, v5, v6, v7] ∧ x = (.agg [y0.1, y1.1, y2.1, y3.1, y4.1, y5.1, y6.1, y7.1], y0.2 ++ (y1.2 ++ (y2.2 ++ (y3.2 ++ (y4.2 ++ (y5.2 ++ (y6.2 ++ (y7.2)))))))) ∧
      DataW.trod enc P w base spare held n f0.type [v0] = some y0 ∧ DataW.trod enc P w base spare held n f1.type [v1] = some y1 ∧ DataW.trod enc P w base spare held n f2.type [v2] = some y2 ∧ DataW.trod enc P w base spare held n f3.type [v3] = some y3 ∧ DataW.trod enc P w base spare held n f4.type [v4] = some y4 ∧ DataW.trod enc P w base spare held n f5.type [v5] = some y5 ∧ DataW.trod enc P w base spare held n f6.type [v6] = some y6 ∧ DataW.trod enc P w base spare held n f7.type [v7] = some y7 := by
  obtain ⟨xs, n, _, hx, hcl, hlen, hg⟩ := DataW.trod_struct hs h
  match cs, hcl.trans hC with
  | [c0, c1, c2, c3, c4, c5, c6, c7], _ =>
    obtain ⟨o0, k0⟩ := hone_of hone 0 f0 rfl
    obtain ⟨o1, k1⟩ := hone_of hone 1 f1 rfl
    obtain ⟨o2, k2⟩ := hone_of hone 2 f2 rfl
    obtain ⟨o3, k3⟩ := hone_of hone 3 f3 rfl
    obtain ⟨o4, k4⟩ := hone_of hone 4 f4 rfl
    obtain ⟨o5, k5⟩ := hone_of hone 5 f5 rfl
    obtain ⟨o6, k6⟩ := hone_of hone 6 f6 rfl
    obtain ⟨o7, k7⟩ := hone_of hone 7 f7 rfl
    match xs, hlen with
    | [y0, y1, y2, y3, y4, y5, y6, y7], _ =>
      exact ⟨c0, c1, c2, c3, c4, c5, c6, c7, y0, y1, y2, y3, y4, y5, y6, y7, n, rfl, by simpa using hx, by simpa [o0, k0] using hg 0 f0 rfl, by simpa [o1, k1] using hg 1 f1 rfl, by simpa [o2, k2] using hg 2 f2 rfl, by simpa [o3, k3] using hg 3 f3 rfl, by simpa [o4, k4] using hg 4 f4 rfl, by simpa [o5, k5] using hg 5 f5 rfl, by simpa [o6, k6] using hg 6 f6 rfl, by simpa [o7, k7] using hg 7 f7 rfl⟩
/-- eight cells that read as a symbol are one -/
theorem sym_of {w : World} {base fuel : Nat} {spare : Nat → Bool} {held : Bool} {cs : List Value} {x : DataW H × List MemPlace} (h : DataW.trod enc Try.prog w base spare held fuel 45 cs = some x) :
    ∃ s : Sym, cs = symC s ∧ s.name.length ≤ maxLen ∧ s.ver.length ≤ maxLen ∧ x.2 = [] := by
  obtain ⟨v0, v1, v2, v3, v4, v5, v6, v7, y0, y1, y2, y3, y4, y5, y6, y7, n, rfl, rfl, h0, h1, h2, h3, h4, h5, h6, h7⟩ := eight_of Try.underlying45 (by kernel_rfl) symCells h
  obtain ⟨nm, e0, rfl, k0⟩ := DataW.trod_string Try.underlying9 h0
  obtain ⟨vr, e1, rfl, k1⟩ := DataW.trod_string Try.underlying9 h1
  obtain ⟨pl, e2, rfl, k2⟩ := DataW.trod_int Try.underlying43 h2
  obtain ⟨sz, e3, rfl, k3⟩ := DataW.trod_int Try.underlying43 h3
  obtain ⟨kd, e4, rfl, k4⟩ := DataW.trod_int Try.underlying3 h4
  obtain ⟨bd, e5, rfl, k5⟩ := DataW.trod_int Try.underlying3 h5
  obtain ⟨sn, e6, rfl, k6⟩ := DataW.trod_int Try.underlying3 h6
  obtain ⟨df, e7, rfl⟩ := DataW.trod_bool Try.underlying4 h7
  cases e0; cases e1; cases e2; cases e3; cases e4; cases e5; cases e6; cases e7
  refine ⟨⟨nm.data.toList, vr.data.toList, pl, sz, kd, bd, sn, df⟩, ?_, by simpa using k0, by simpa using k1, rfl⟩
  simp only [symC, bytes_eta]
/-- a symbol as it comes in, by value -/
theorem open_sym {w : World} {base : Nat} {spare : Nat → Bool} {held : Bool} {r : Reach} {b0 : Nat} {v : Value} {d : DataW H} {p : List MemPlace}
    (hv : Value.okWide Try.prog w r b0 45 v) (h : DataW.Trod enc Try.prog w base spare held 45 v d p) :
    ∃ s : Sym, v = symV s ∧ p = [] ∧ s.name.length ≤ maxLen ∧ s.ver.length ≤ maxLen := by
  obtain ⟨cs, rfl, hsz⟩ := okWide_struct Try.underlying45 hv
  obtain ⟨fuel, hf⟩ := h
  obtain ⟨s, hs, k0, k1, hp⟩ := sym_of hf
  refine ⟨s, ?_, hp, k0, k1⟩
  simp only [Value.cells] at hs
  unfold symV
  rw [← hs]
/-- a slice of symbols as it comes in -/
theorem open_syms {W : World} {v : Value} {d : DataW H} {p : List MemPlace} {a0 : Option Addr} {len cap : Nat} (hv : v = .slice a0 len cap)
    (h : DataW.Trod enc Try.prog W 0 (fun _ => true) true 34 v d p) :
    ∃ l : List Sym, l.length = len ∧ RdS W a0 l ∧ (∀ s ∈ l, s.name.length ≤ maxLen ∧ s.ver.length ≤ maxLen) ∧ len ≤ maxLen := by
  subst hv
  obtain ⟨fuel, hf⟩ := h
  rcases open_slice Try.underlying34 hf with ⟨hcs, -⟩ | ⟨a, len', cap', m, n, D, Pl, hcs, -, hl, hm, hmm, -, hi⟩
  · simp [Value.cells] at hcs
    obtain ⟨rfl, rfl, rfl⟩ := hcs
    exact ⟨[], rfl, fun h => absurd h (by simp), by simp, Nat.zero_le _⟩
  · simp [Value.cells] at hcs
    obtain ⟨rfl, rfl, rfl⟩ := hcs
    simp only [if_true] at hmm
    subst hmm
    rw [symCells] at hi
    obtain ⟨l, hll, hq⟩ := list_of (n := len) (Q := fun i s => W.cells? 0 (a.add (i * 8)) 8 = some (symC s) ∧ s.name.length ≤ maxLen ∧ s.ver.length ≤ maxLen) fun i hin => by
      obtain ⟨cs', hc, ht⟩ := hi i (by omega)
      obtain ⟨s, rfl, k0, k1, -⟩ := sym_of ht
      exact ⟨s, hc, k0, k1⟩
    refine ⟨l, hll, fun h0 => ?_, fun s hs => ?_, by omega⟩
    · obtain ⟨b, off, spot⟩ := a
      have hcell : ∀ i (hi : i < l.length) j, j < 8 → W.cell? ((⟨b, off, spot⟩ : Addr).add (i * 8 + j)) = (symC l[i])[j]? := fun i hi' j hj => by
        obtain ⟨hc, -⟩ := hq i hi'
        obtain ⟨_, hcl, hat⟩ := World.cells?_some hc
        have := hat j hj
        rwa [Go.Deep.add_add] at this
      have c0 := hcell 0 h0 0 (by decide)
      have c0' : W.cell? ((⟨b, off, spot⟩ : Addr).add (0 * 8 + 0)) = some (.string ⟨l[0].name.toArray⟩) := c0
      have hspot : spot = none := by simpa [Addr.add] using World.cell?_spot c0'
      subst hspot
      refine ⟨b, off, rfl, ?_, fun k hk j => ?_⟩
      · have := heap_lt_of_cell c0'
        rwa [add_plain] at this
      · rcases Nat.lt_or_ge j 8 with hj | hj
        · have := hcell k hk j hj
          rw [add_plain] at this
          exact Or.inl (by rw [Nat.add_assoc]; exact this)
        · exact Or.inr hj
    · obtain ⟨i, hi', rfl⟩ := List.getElem_of_mem hs
      exact (hq i hi').2
/-- a slice that is nil has nothing, and no room -/
theorem open_syms_nil {W : World} {v : Value} {d : DataW H} {p : List MemPlace} {a0 : Option Addr} {len cap : Nat} (hv : v = .slice a0 len cap)
    (h : DataW.Trod enc Try.prog W 0 (fun _ => true) true 34 v d p) (ha : a0 = none) : len = 0 ∧ cap = 0 := by
  subst hv
  subst ha
  obtain ⟨fuel, hf⟩ := h
  rcases open_slice Try.underlying34 hf with ⟨hcs, -⟩ | ⟨a, len', cap', m, n, D, Pl, hcs, -, hl, hm, hmm, -, hi⟩
  · simp [Value.cells] at hcs
    exact hcs
  · simp [Value.cells] at hcs
/-- all arguments read behind a call that makes new blocks alone as they read before -/
theorem trodAll_stays {P : Program} (hl : laidOutB P = true) {W W' : World} (hb : Below W.heap.size W W') {sp : Nat → Bool} :
    ∀ {ts : List TypeId} {vs : List Value} {ds : List (DataW H)} {p : List MemPlace}, (ts.all fun t => P.readableRec t && decide (t < P.types.size)) = true →
      DataW.TrodAll enc P W 0 (fun _ => true) true ts vs ds p → (∀ x ∈ p, x.block < W.heap.size) → (∀ x ∈ p, sp x.block = true) → DataW.TrodAll enc P W' 0 sp true ts vs ds p
  | [], [], [], _, _, h, _, _ => h
  | t :: ts, v :: vs, d :: ds, _, hr, h, hlt, hs => by
    obtain ⟨p, q, h1, h2, rfl⟩ := h
    simp only [List.all_cons, Bool.and_eq_true, decide_eq_true_eq] at hr
    exact ⟨p, q, WideElems.Trod_stays hl hr.1.1 hr.1.2 h1 (fun x hx => hb.same (hlt x (List.mem_append_left _ hx))) (fun x hx => hs x (List.mem_append_left _ hx)),
      trodAll_stays hl hb hr.2 h2 (fun x hx => hlt x (List.mem_append_right _ hx)) (fun x hx => hs x (List.mem_append_right _ hx)), rfl⟩
  | [], [], _ :: _, _, _, h, _, _ => h.elim
  | [], _ :: _, _, _, _, h, _, _ => h.elim
  | _ :: _, [], _, _, _, h, _, _ => h.elim
  | _ :: _, _ :: _, [], _, _, h, _, _ => h.elim

end
end Go.Proofs.Ythammjpadbbflaa
