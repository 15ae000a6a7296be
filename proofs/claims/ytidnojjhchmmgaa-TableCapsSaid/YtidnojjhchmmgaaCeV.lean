/- What comes in: an object, bytes; and all arguments read again behind a call that makes new blocks alone. -/
import Derived.Test.YtidnojjhchmmgaaCeU
import Derived.ProofKit
import Derived.Carry
import Derived.ChangeMaps5
import Derived.Deep.Slices
import Derived.Deep.Fields
import Derived.ChangeSame
namespace Go.Proofs.Ytidnojjhchmmgaa
set_option linter.unusedVariables false
set_option linter.unusedSimpArgs false
set_option maxRecDepth 100000
open Go.Joins Go.ChangeShapes Go.WideShapes Go.ChangeAt Go.RowKit Go.Deep

theorem bytes_eta (s : ByteArray) : (⟨s.data.toList.toArray⟩ : ByteArray) = s := by cases s; simp
theorem list_of {α : Type} {n : Nat} {Q : Nat → α → Prop} (h : ∀ i, i < n → ∃ s, Q i s) : ∃ l : List α, l.length = n ∧ ∀ i (hi : i < l.length), Q i l[i] := by
  induction n with
  | zero => exact ⟨[], rfl, fun i hi => absurd hi (by simp)⟩
  | succ n ih =>
    obtain ⟨l, hl, hq⟩ := ih fun i hi => h i (by omega)
    obtain ⟨s, hs⟩ := h n (by omega)
    refine ⟨l ++ [s], by simp [hl], fun i hi => ?_⟩
    by_cases e : i < l.length
    · rw [List.getElem_append_left e]; exact hq i e
    · have : i = l.length := by simp at hi; omega
      subst this
      rw [List.getElem_append_right (Nat.le_refl _)]
      simp only [Nat.sub_self, List.getElem_cons_zero]
      rw [hl]; exact hs
theorem objCells : Try.prog.cellsOf 28 = 7 := by kernel_rfl
theorem symCells : Try.prog.cellsOf 35 = 8 := by kernel_rfl
theorem segCells : Try.prog.cellsOf 61 = 4 := by kernel_rfl
theorem relCells : Try.prog.cellsOf 67 = 2 := by kernel_rfl
theorem strCells : Try.prog.cellsOf 9 = 1 := by kernel_rfl
theorem intCells : Try.prog.cellsOf 3 = 1 := by kernel_rfl
theorem u8Cells : Try.prog.cellsOf 5 = 1 := by kernel_rfl
theorem flat_one {α : Type} (g : α → Value) (l : List α) : l.flatMap (fun x => [g x]) = l.map g := by
  induction l with
  | nil => rfl
  | cons x l ih => rw [List.flatMap_cons, ih]; rfl
section
variable {H : Type} {enc : TypeId × Value → H}
theorem two_of {P : Program} {w : World} {base fuel : Nat} {spare : Nat → Bool} {held : Bool} {t : TypeId} {f0 f1 : Field} {cs : List Value} {x : DataW H × List MemPlace}
    (hs : P.underlying t = some (.struct #[f0, f1])) (hone : oneCellFields P #[f0, f1] = true) (hC : P.cellsOf t = 2) (h : DataW.trod enc P w base spare held fuel t cs = some x) :
    ∃ (v0 v1 : Value) (y0 y1 : DataW H × List MemPlace) (n : Nat), cs = [v0, v1] ∧ x = (.agg [y0.1, y1.1], y0.2 ++ (y1.2 )) ∧
      DataW.trod enc P w base spare held n f0.type [v0] = some y0 ∧ DataW.trod enc P w base spare held n f1.type [v1] = some y1 := by
  obtain ⟨xs, n, _, hx, hcl, hlen, hg⟩ := DataW.trod_struct hs h
  match cs, hcl.trans hC with
  | [c0, c1], _ =>
    obtain ⟨o0, k0⟩ := hone_of hone 0 f0 rfl
    obtain ⟨o1, k1⟩ := hone_of hone 1 f1 rfl
    match xs, hlen with
    | [y0, y1], _ =>
      exact ⟨c0, c1, y0, y1, n, rfl, by simpa using hx, by simpa [o0, k0] using hg 0 f0 rfl, by simpa [o1, k1] using hg 1 f1 rfl⟩
theorem four_of {P : Program} {w : World} {base fuel : Nat} {spare : Nat → Bool} {held : Bool} {t : TypeId} {f0 f1 f2 f3 : Field} {cs : List Value} {x : DataW H × List MemPlace}
    (hs : P.underlying t = some (.struct #[f0, f1, f2, f3])) (hone : oneCellFields P #[f0, f1, f2, f3] = true) (hC : P.cellsOf t = 4) (h : DataW.trod enc P w base spare held fuel t cs = some x) :
    ∃ (v0 v1 v2 v3 : Value) (y0 y1 y2 y3 : DataW H × List MemPlace) (n : Nat), cs = [v0, v1, v2, v3] ∧ x = (.agg [y0.1, y1.1, y2.1, y3.1], y0.2 ++ (y1.2 ++ (y2.2 ++ (y3.2 )))) ∧
      DataW.trod enc P w base spare held n f0.type [v0] = some y0 ∧ DataW.trod enc P w base spare held n f1.type [v1] = some y1 ∧ DataW.trod enc P w base spare held n f2.type [v2] = some y2 ∧ DataW.trod enc P w base spare held n f3.type [v3] = some y3 := by
  obtain ⟨xs, n, _, hx, hcl, hlen, hg⟩ := DataW.trod_struct hs h
  match cs, hcl.trans hC with
  | [c0, c1, c2, c3], _ =>
    obtain ⟨o0, k0⟩ := hone_of hone 0 f0 rfl
    obtain ⟨o1, k1⟩ := hone_of hone 1 f1 rfl
    obtain ⟨o2, k2⟩ := hone_of hone 2 f2 rfl
    obtain ⟨o3, k3⟩ := hone_of hone 3 f3 rfl
    match xs, hlen with
    | [y0, y1, y2, y3], _ =>
      exact ⟨c0, c1, c2, c3, y0, y1, y2, y3, n, rfl, by simpa using hx, by simpa [o0, k0] using hg 0 f0 rfl, by simpa [o1, k1] using hg 1 f1 rfl, by simpa [o2, k2] using hg 2 f2 rfl, by simpa [o3, k3] using hg 3 f3 rfl⟩
theorem seven_of {P : Program} {w : World} {base fuel : Nat} {spare : Nat → Bool} {held : Bool} {t : TypeId} {f0 f1 f2 f3 f4 f5 f6 : Field} {cs : List Value} {x : DataW H × List MemPlace}
    (hs : P.underlying t = some (.struct #[f0, f1, f2, f3, f4, f5, f6])) (hone : oneCellFields P #[f0, f1, f2, f3, f4, f5, f6] = true) (hC : P.cellsOf t = 7) (h : DataW.trod enc P w base spare held fuel t cs = some x) :
    ∃ (v0 v1 v2 v3 v4 v5 v6 : Value) (y0 y1 y2 y3 y4 y5 y6 : DataW H × List MemPlace) (n : Nat), cs = [v0, v1, v2, v3, v4, v5, v6] ∧ x = (.agg [y0.1, y1.1, y2.1, y3.1, y4.1, y5.1, y6.1], y0.2 ++ (y1.2 ++ (y2.2 ++ (y3.2 ++ (y4.2 ++ (y5.2 ++ (y6.2 ))))))) ∧
      DataW.trod enc P w base spare held n f0.type [v0] = some y0 ∧ DataW.trod enc P w base spare held n f1.type [v1] = some y1 ∧ DataW.trod enc P w base spare held n f2.type [v2] = some y2 ∧ DataW.trod enc P w base spare held n f3.type [v3] = some y3 ∧ DataW.trod enc P w base spare held n f4.type [v4] = some y4 ∧ DataW.trod enc P w base spare held n f5.type [v5] = some y5 ∧ DataW.trod enc P w base spare held n f6.type [v6] = some y6 := by
  obtain ⟨xs, n, _, hx, hcl, hlen, hg⟩ := DataW.trod_struct hs h
  match cs, hcl.trans hC with
  | [c0, c1, c2, c3, c4, c5, c6], _ =>
    obtain ⟨o0, k0⟩ := hone_of hone 0 f0 rfl
    obtain ⟨o1, k1⟩ := hone_of hone 1 f1 rfl
    obtain ⟨o2, k2⟩ := hone_of hone 2 f2 rfl
    obtain ⟨o3, k3⟩ := hone_of hone 3 f3 rfl
    obtain ⟨o4, k4⟩ := hone_of hone 4 f4 rfl
    obtain ⟨o5, k5⟩ := hone_of hone 5 f5 rfl
    obtain ⟨o6, k6⟩ := hone_of hone 6 f6 rfl
    match xs, hlen with
    | [y0, y1, y2, y3, y4, y5, y6], _ =>
      exact ⟨c0, c1, c2, c3, c4, c5, c6, y0, y1, y2, y3, y4, y5, y6, n, rfl, by simpa using hx, by simpa [o0, k0] using hg 0 f0 rfl, by simpa [o1, k1] using hg 1 f1 rfl, by simpa [o2, k2] using hg 2 f2 rfl, by simpa [o3, k3] using hg 3 f3 rfl, by simpa [o4, k4] using hg 4 f4 rfl, by simpa [o5, k5] using hg 5 f5 rfl, by simpa [o6, k6] using hg 6 f6 rfl⟩
theorem eight_of {P : Program} {w : World} {base fuel : Nat} {spare : Nat → Bool} {held : Bool} {t : TypeId} {f0 f1 f2 f3 f4 f5 f6 f7 : Field} {cs : List Value} {x : DataW H × List MemPlace}
    (hs : P.underlying t = some (.struct #[f0, f1, f2, f3, f4, f5, f6, f7])) (hone : oneCellFields P #[f0, f1, f2, f3, f4, f5, f6, f7] = true) (hC : P.cellsOf t = 8) (h : DataW.trod enc P w base spare held fuel t cs = some x) :
    ∃ (v0 v1 v2 v3 v4 v5 v6 v7 : Value) (y0 y1 y2 y3 y4 y5 y6 y7 : DataW H × List MemPlace) (n : Nat), cs = [v0, v1, v2, v3, v4, v5, v6, v7] ∧ x = (.agg [y0.1, y1.1, y2.1, y3.1, y4.1, y5.1, y6.1, y7.1], y0.2 ++ (y1.2 ++ (y2.2 ++ (y3.2 ++ (y4.2 ++ (y5.2 ++ (y6.2 ++ (y7.2 )))))))) ∧
      DataW.trod enc P w base spare held n f0.type [v0] = some y0 ∧ DataW.trod enc P w base spare held n f1.type [v1] = some y1 ∧ DataW.trod enc P w base spare held n f2.type [v2] = some y2 ∧ DataW.trod enc P w base spare held n f3.type [v3] = some y3 ∧ DataW.trod enc P w base spare held n f4.type [v4] = some y4 ∧ DataW.trod enc P w base spare held n f5.type [v5] = some y5 ∧ DataW.trod enc P w base spare held n f6.type [v6] = some y6 ∧ DataW.trod enc P w base spare held n f7.type [v7] = some y7 := by
  obtain ⟨xs, n, _, hx, hcl, hlen, hg⟩ := DataW.trod_struct hs h
  match cs, hcl.trans hC with
  | [c0, c1, c2, c3, c4, c5, c6, c7], _ =>
    obtain ⟨o0, k0⟩ := hone_of hone 0 f0 rfl
    obtain ⟨o1, k1⟩ := hone_of hone 1 f1 rfl
    obtain ⟨o2, k2⟩ := hone_of hone 2 f2 rfl
    obtain ⟨o3, k3⟩ := hone_of hone 3 f3 rfl
    obtain ⟨o4, k4⟩ := hone_of hone 4 f4 rfl
    obtain ⟨o5, k5⟩ := hone_of hone 5 f5 rfl
    obtain ⟨o6, k6⟩ := hone_of hone 6 f6 rfl
    obtain ⟨o7, k7⟩ := hone_of hone 7 f7 rfl
    match xs, hlen with
    | [y0, y1, y2, y3, y4, y5, y6, y7], _ =>
      exact ⟨c0, c1, c2, c3, c4, c5, c6, c7, y0, y1, y2, y3, y4, y5, y6, y7, n, rfl, by simpa using hx, by simpa [o0, k0] using hg 0 f0 rfl, by simpa [o1, k1] using hg 1 f1 rfl, by simpa [o2, k2] using hg 2 f2 rfl, by simpa [o3, k3] using hg 3 f3 rfl, by simpa [o4, k4] using hg 4 f4 rfl, by simpa [o5, k5] using hg 5 f5 rfl, by simpa [o6, k6] using hg 6 f6 rfl, by simpa [o7, k7] using hg 7 f7 rfl⟩
/-- a slice of elements of k cells -/
theorem rows_of {α : Type} {f : α → List Value} {Q : α → Prop} {k : Nat} {sl el : TypeId} {w : World} (hf : ∀ x, (f x).length = k) (hk : 0 < k) (hu : Try.prog.underlying sl = some (.slice el)) (hce : Try.prog.cellsOf el = k)
    (hone : ∀ n cs (x : DataW H × List MemPlace), DataW.trod enc Try.prog w 0 (fun _ => true) true n el cs = some x → ∃ e : α, cs = f e ∧ Q e) {fuel : Nat} {v : Value} {x : DataW H × List MemPlace} (h : DataW.trod enc Try.prog w 0 (fun _ => true) true fuel sl [v] = some x) :
    ∃ (a : Option Addr) (c : Nat) (l : List α), v = .slice a l.length c ∧ Rd w a (l.length * k) (l.flatMap f) ∧ (∀ e ∈ l, Q e) ∧ l.length ≤ maxLen ∧ l.length ≤ c := by
  rcases open_slice hu h with ⟨hcs, -⟩ | ⟨a, len', cap', m, n, D, Pl, hcs, -, hl, hm, hmm, -, hi⟩
  · simp at hcs
    subst hcs
    exact ⟨none, 0, [], rfl, ⟨by simp, fun h => absurd h (by simp)⟩, by simp, Nat.zero_le _, Nat.zero_le _⟩
  · simp at hcs
    subst hcs
    simp only [if_true] at hmm
    subst hmm
    rw [hce] at hi
    obtain ⟨l, hll, hq⟩ := list_of (n := len') (Q := fun i (e : α) => w.cells? 0 (a.add (i * k)) k = some (f e) ∧ Q e) fun i hin => by
      obtain ⟨cs', hc, ht⟩ := hi i (by omega)
      obtain ⟨e, rfl, he⟩ := hone _ _ _ ht
      exact ⟨e, hc, he⟩
    have hcell : ∀ i (hi : i < l.length) j, j < k → w.cell? (a.add (i * k + j)) = (f l[i])[j]? := fun i hi' j hj => by
      obtain ⟨hc, -⟩ := hq i hi'
      obtain ⟨_, hcl, hat⟩ := World.cells?_some hc
      have := hat j hj
      rwa [Go.Deep.add_add] at this
    refine ⟨some a, _, l, by rw [hll], ⟨flat_len hf l, fun h0 => ?_⟩, fun e he => ?_, by omega, by omega⟩
    · have hl0 : 0 < l.length := Nat.pos_of_mul_pos_right h0
      obtain ⟨b, off, spot⟩ := a
      have c0 := hcell 0 hl0 0 hk
      obtain ⟨u, hu0⟩ : ∃ u, (f l[0])[0]? = some u := ⟨(f l[0])[0]'(by rw [hf]; exact hk), List.getElem?_eq_getElem _⟩
      rw [hu0] at c0
      have hspot : spot = none := by simpa [Addr.add] using World.cell?_spot c0
      subst hspot
      refine ⟨b, off, rfl, ?_, fun q hq2 => ?_⟩
      · have := heap_lt_of_cell c0
        rwa [add_plain] at this
      · have hi2 : q / k < l.length := Nat.div_lt_of_lt_mul (by rw [Nat.mul_comm]; exact hq2)
        have hj2 : q % k < k := Nat.mod_lt _ hk
        have h1 := hcell (q / k) hi2 (q % k) hj2
        have h2 := flat_get hf l (q / k) hi2 (q % k) hj2
        rw [show q / k * k + q % k = q by rw [Nat.mul_comm]; exact Nat.div_add_mod q k] at h1 h2
        rw [h2, ← h1, add_plain]
    · obtain ⟨i, hi', rfl⟩ := List.getElem_of_mem he
      exact (hq i hi').2
theorem wf_u8 {n : Int} (h : (Lit.int .u8 n).wf = true) : 0 ≤ n ∧ n < 256 := by
  simp [Lit.wf, IntKind.min, IntKind.max, IntKind.signed, IntKind.bits] at h
  omega
theorem wf_u64b {n : Int} (h : (Lit.int .u64 n).wf = true) : u64B n := by
  simp [Lit.wf, IntKind.min, IntKind.max, IntKind.signed, IntKind.bits] at h
  unfold u64B
  omega
theorem bytes_of {w : World} {fuel : Nat} {v : Value} {x : DataW H × List MemPlace} (h : DataW.trod enc Try.prog w 0 (fun _ => true) true fuel 59 [v] = some x) :
    ∃ (a : Option Addr) (c : Nat) (l : List UInt8), v = .slice a l.length c ∧ Rd w a l.length (u8v l) ∧ l.length ≤ maxLen ∧ l.length ≤ c := by
  obtain ⟨a, c, l, rfl, hr, -, hm, hc⟩ := rows_of (f := fun b : UInt8 => [Value.int .u8 (b.toNat : Int)]) (Q := fun _ => True) (fun _ => rfl) (by decide) Try.underlying59 u8Cells (fun n cs x ht => by
    obtain ⟨z, rfl, -, k0⟩ := DataW.trod_int Try.underlying5 ht
    obtain ⟨h0, h1⟩ := wf_u8 k0
    refine ⟨UInt8.ofNat z.toNat, ?_, trivial⟩
    rw [UInt8.toNat_ofNat_of_lt' (by show z.toNat < 256; omega), Int.toNat_of_nonneg h0]) h
  rw [flat_one, Nat.mul_one] at hr
  exact ⟨a, c, l, rfl, hr, hm, hc⟩
theorem texts_of {w : World} {fuel : Nat} {v : Value} {x : DataW H × List MemPlace} (h : DataW.trod enc Try.prog w 0 (fun _ => true) true fuel 22 [v] = some x) :
    ∃ (a : Option Addr) (c : Nat) (l : List (List UInt8)), v = .slice a l.length c ∧ Rd w a l.length (txs l) ∧ (∀ t ∈ l, t.length ≤ maxLen) ∧ l.length ≤ maxLen ∧ l.length ≤ c := by
  obtain ⟨a, c, l, rfl, hr, hq, hm, hc⟩ := rows_of (f := fun s : List UInt8 => [strV s]) (Q := fun t => t.length ≤ maxLen) (fun _ => rfl) (by decide) Try.underlying22 strCells (fun n cs x ht => by
    obtain ⟨nm, rfl, -, k0⟩ := DataW.trod_string Try.underlying9 ht
    exact ⟨nm.data.toList, by unfold strV; rw [bytes_eta], by simpa using k0⟩) h
  rw [flat_one, Nat.mul_one] at hr
  exact ⟨a, c, l, rfl, hr, hq, hm, hc⟩
theorem ints_of {w : World} {fuel : Nat} {v : Value} {x : DataW H × List MemPlace} (h : DataW.trod enc Try.prog w 0 (fun _ => true) true fuel 26 [v] = some x) :
    ∃ (a : Option Addr) (c : Nat) (l : List Int), v = .slice a l.length c ∧ Rd w a l.length (i64s l) ∧ l.length ≤ maxLen ∧ l.length ≤ c := by
  obtain ⟨a, c, l, rfl, hr, hq, hm, hc⟩ := rows_of (f := fun s : Int => [Value.int .i64 s]) (Q := fun _ => True) (fun _ => rfl) (by decide) Try.underlying26 intCells (fun n cs x ht => by
    obtain ⟨z, rfl, -, k0⟩ := DataW.trod_int Try.underlying3 ht
    exact ⟨z, rfl, trivial⟩) h
  rw [flat_one, Nat.mul_one] at hr
  exact ⟨a, c, l, rfl, hr, hm, hc⟩
theorem syms_of {w : World} {fuel : Nat} {v : Value} {x : DataW H × List MemPlace} (h : DataW.trod enc Try.prog w 0 (fun _ => true) true fuel 24 [v] = some x) :
    ∃ (a : Option Addr) (c : Nat) (l : List Sym), v = .slice a l.length c ∧ RdS w a l ∧ (∀ s ∈ l, u64B s.place ∧ u64B s.size ∧ s.name.length ≤ maxLen ∧ s.ver.length ≤ maxLen) ∧ l.length ≤ maxLen ∧ l.length ≤ c :=
  rows_of symC_len (by decide) Try.underlying24 symCells (fun n cs x ht => by
    obtain ⟨v0, v1, v2, v3, v4, v5, v6, v7, y0, y1, y2, y3, y4, y5, y6, y7, n, rfl, rfl, h0, h1, h2, h3, h4, h5, h6, h7⟩ := eight_of Try.underlying35 (by kernel_rfl) symCells ht
    obtain ⟨nm, e0, -, k0⟩ := DataW.trod_string Try.underlying9 h0
    obtain ⟨vr, e1, -, k1⟩ := DataW.trod_string Try.underlying9 h1
    obtain ⟨pl, e2, -, k2⟩ := DataW.trod_int Try.underlying29 h2
    obtain ⟨sz, e3, -, k3⟩ := DataW.trod_int Try.underlying29 h3
    obtain ⟨kd, e4, -, k4⟩ := DataW.trod_int Try.underlying3 h4
    obtain ⟨bd, e5, -, k5⟩ := DataW.trod_int Try.underlying3 h5
    obtain ⟨sn, e6, -, k6⟩ := DataW.trod_int Try.underlying3 h6
    obtain ⟨df, e7, -⟩ := DataW.trod_bool Try.underlying4 h7
    cases e0; cases e1; cases e2; cases e3; cases e4; cases e5; cases e6; cases e7
    refine ⟨⟨nm.data.toList, vr.data.toList, pl, sz, kd, bd, sn, df⟩, ?_, wf_u64b k2, wf_u64b k3, by simpa using k0, by simpa using k1⟩
    simp only [symC, bytes_eta]) h
theorem rels_of {w : World} {fuel : Nat} {v : Value} {x : DataW H × List MemPlace} (h : DataW.trod enc Try.prog w 0 (fun _ => true) true fuel 25 [v] = some x) :
    ∃ (a : Option Addr) (c : Nat) (l : List Rel), v = .slice a l.length c ∧ RdR w a l ∧ (∀ s ∈ l, u64B s.place) ∧ l.length ≤ maxLen ∧ l.length ≤ c :=
  rows_of relC_len (by decide) Try.underlying25 relCells (fun n cs x ht => by
    obtain ⟨v0, v1, y0, y1, n, rfl, rfl, h0, h1⟩ := two_of Try.underlying67 (by kernel_rfl) relCells ht
    obtain ⟨pl, e2, -, k2⟩ := DataW.trod_int Try.underlying29 h0
    obtain ⟨kd, e4, -, k4⟩ := DataW.trod_int Try.underlying3 h1
    cases e2; cases e4
    exact ⟨⟨pl, kd⟩, rfl, wf_u64b k2⟩) h
theorem segs_of {w : World} {fuel : Nat} {v : Value} {x : DataW H × List MemPlace} (h : DataW.trod enc Try.prog w 0 (fun _ => true) true fuel 23 [v] = some x) :
    ∃ (a : Option Addr) (c : Nat) (l : List Seg), v = .slice a l.length c ∧ RdG w a l ∧ (∀ s ∈ l, Rd w s.ba s.bytes.length (u8v s.bytes) ∧ u64B s.place ∧ u64B s.size ∧ s.bytes.length ≤ maxLen) ∧ l.length ≤ maxLen ∧ l.length ≤ c :=
  rows_of segC_len (by decide) Try.underlying23 segCells (fun n cs x ht => by
    obtain ⟨v0, v1, v2, v3, y0, y1, y2, y3, n, rfl, rfl, h0, h1, h2, h3⟩ := four_of Try.underlying61 (by kernel_rfl) segCells ht
    obtain ⟨pl, e0, -, k0⟩ := DataW.trod_int Try.underlying29 h0
    obtain ⟨sz, e1, -, k1⟩ := DataW.trod_int Try.underlying29 h1
    obtain ⟨fl, e2, -, k2⟩ := DataW.trod_int Try.underlying3 h2
    obtain ⟨a, c, l, rfl, hr, hm, hc⟩ := bytes_of h3
    cases e0; cases e1; cases e2
    exact ⟨⟨pl, sz, fl, l, a, c⟩, rfl, hr, wf_u64b k0, wf_u64b k1, hm⟩) h
theorem max_lt {n : Nat} (h : n ≤ maxLen) : n < 9223372036854775808 := by unfold maxLen at h; omega
/-- an object as it comes in -/
theorem open_obj {w : World} {base : Nat} {r : Reach} {v : Value} {d : DataW H} {p : List MemPlace}
    (hv : Value.okWide Try.prog w r base 28 v) (h : DataW.Trod enc Try.prog w 0 (fun _ => true) true 28 v d p) :
    ∃ o : Ob, v = objV o ∧ RdOb w o ∧ FitOb o ∧ o.needs.length ≤ o.nc := by
  obtain ⟨cs, rfl, hsz⟩ := okWide_struct Try.underlying28 hv
  obtain ⟨fuel, hf⟩ := h
  obtain ⟨v0, v1, v2, v3, v4, v5, v6, y0, y1, y2, y3, y4, y5, y6, n, hcs, -, h0, h1, h2, h3, h4, h5, h6⟩ := seven_of Try.underlying28 (by kernel_rfl) objCells hf
  obtain ⟨nm, e0, -, k0⟩ := DataW.trod_string Try.underlying9 h0
  obtain ⟨a1, c1, l1, rfl, r1, q1, m1, z1⟩ := texts_of h1
  obtain ⟨a2, c2, l2, rfl, r2, q2, m2, z2⟩ := segs_of h2
  obtain ⟨a3, c3, l3, rfl, r3, q3, m3, z3⟩ := syms_of h3
  obtain ⟨a4, c4, l4, rfl, r4, q4, m4, z4⟩ := rels_of h4
  obtain ⟨a5, c5, l5, rfl, r5, m5, z5⟩ := ints_of h5
  obtain ⟨a6, c6, l6, rfl, r6, m6, z6⟩ := ints_of h6
  cases e0
  refine ⟨⟨nm.data.toList, l1, l2, l3, l4, l5, l6, a1, c1, a2, c2, a3, c3, a4, c4, a5, c5, a6, c6⟩, ?_, ⟨r1, r2, fun s hs => (q2 s hs).1, r3, r4, r5, r6⟩,
    ⟨max_lt (by simpa using k0), fun n hn => max_lt (q1 n hn), max_lt m1, max_lt m2, fun s hs => ⟨(q2 s hs).2.1, (q2 s hs).2.2.1, max_lt (q2 s hs).2.2.2⟩, max_lt m3, fun s hs => ⟨(q3 s hs).1, (q3 s hs).2.1, max_lt (q3 s hs).2.2.1, max_lt (q3 s hs).2.2.2⟩, max_lt m4, q4, max_lt m5, max_lt m6⟩, z1⟩
  simp only [Value.cells] at hcs
  unfold objV objC
  rw [bytes_eta]
  simp only []
  rw [← hcs]
/-- bytes as they come in -/
theorem open_bytes {W : World} {v : Value} {d : DataW H} {p : List MemPlace} {a0 : Option Addr} {len cap : Nat} (hv : v = .slice a0 len cap)
    (h : DataW.Trod enc Try.prog W 0 (fun _ => true) true 59 v d p) :
    ∃ l : List UInt8, l.length = len ∧ Rd W a0 l.length (u8v l) ∧ len ≤ maxLen ∧ len ≤ cap := by
  subst hv
  obtain ⟨fuel, hf⟩ := h
  have hf' : DataW.trod enc Try.prog W 0 (fun _ => true) true fuel 59 [.slice a0 len cap] = some _ := hf
  obtain ⟨a, c, l, e, hr, hm, hc⟩ := bytes_of hf'
  cases e
  exact ⟨l, rfl, hr, hm, hc⟩
/-- all arguments read behind a call that makes new blocks alone as they read before -/
theorem trodAll_stays {P : Program} (hl : laidOutB P = true) {W W' : World} (hb : Below W.heap.size W W') {sp : Nat → Bool} :
    ∀ {ts : List TypeId} {vs : List Value} {ds : List (DataW H)} {p : List MemPlace}, (ts.all fun t => P.readableRec t && decide (t < P.types.size)) = true →
      DataW.TrodAll enc P W 0 (fun _ => true) true ts vs ds p → (∀ x ∈ p, x.block < W.heap.size) → (∀ x ∈ p, sp x.block = true) → DataW.TrodAll enc P W' 0 sp true ts vs ds p
  | [], [], [], _, _, h, _, _ => h
  | t :: ts, v :: vs, d :: ds, _, hr, h, hlt, hs => by
    obtain ⟨p, q, h1, h2, rfl⟩ := h
    simp only [List.all_cons, Bool.and_eq_true, decide_eq_true_eq] at hr
    exact ⟨p, q, WideElems.Trod_stays hl hr.1.1 hr.1.2 h1 (fun x hx => hb.same (hlt x (List.mem_append_left _ hx))) (fun x hx => hs x (List.mem_append_left _ hx)),
      trodAll_stays hl hb hr.2 h2 (fun x hx => hlt x (List.mem_append_right _ hx)) (fun x hx => hs x (List.mem_append_right _ hx)), rfl⟩
  | [], [], _ :: _, _, _, h, _, _ => h.elim
  | [], _ :: _, _, _, _, h, _, _ => h.elim
  | _ :: _, [], _, _, _, h, _, _ => h.elim
  | _ :: _, _ :: _, [], _, _, h, _, _ => h.elim

end
end Go.Proofs.Ytidnojjhchmmgaa
