/- What comes in: bytes; and all arguments read again behind a call that makes new blocks alone. -/
import Derived.Test.YtdpmihlmfephiaaGreatDoorAd2
import Derived.ProofKit
import Derived.Carry
import Derived.ChangeMaps5
import Derived.Deep.Slices
import Derived.Deep.Fields
import Derived.ChangeSame
namespace Go.Proofs.YtdpmihlmfephiaaGreatDoor
set_option linter.unusedVariables false
set_option linter.unusedSimpArgs false
set_option maxRecDepth 100000
open Go.Joins Go.ChangeShapes Go.WideShapes Go.ChangeAt Go.RowKit Go.Deep

theorem list_of {α : Type} {n : Nat} {Q : Nat → α → Prop} (h : ∀ i, i < n → ∃ s, Q i s) : ∃ l : List α, l.length = n ∧ ∀ i (hi : i < l.length), Q i l[i] := by
  induction n with
  | zero => exact ⟨[], rfl, fun i hi => absurd hi (by simp)⟩
  | succ n ih =>
    obtain ⟨l, hl, hq⟩ := ih fun i hi => h i (by omega)
    obtain ⟨s, hs⟩ := h n (by omega)
    refine ⟨l ++ [s], by simp [hl], fun i hi => ?_⟩
    by_cases e : i < l.length
    · rw [List.getElem_append_left e]; exact hq i e
    · have : i = l.length := by simp at hi; omega
      subst this
      rw [List.getElem_append_right (Nat.le_refl _)]
      simp only [Nat.sub_self, List.getElem_cons_zero]
      rw [hl]; exact hs
theorem u8Cells : Tryz.prog.cellsOf 5 = 1 := by kernel_rfl
theorem flat_len {α : Type} {f : α → List Value} {k : Nat} (hf : ∀ x, (f x).length = k) (l : List α) : (l.flatMap f).length = l.length * k := by
  induction l with
  | nil => simp
  | cons s l ih => rw [List.flatMap_cons, List.length_append, List.length_cons, ih, hf, Nat.succ_mul, Nat.add_comm]
theorem flat_get {α : Type} {f : α → List Value} {k : Nat} (hf : ∀ x, (f x).length = k) (l : List α) (i : Nat) (hi : i < l.length) (j : Nat) (hj : j < k) : (l.flatMap f)[i * k + j]? = (f l[i])[j]? := by
  induction l generalizing i with
  | nil => simp at hi
  | cons s l ih =>
    rw [List.flatMap_cons]
    rcases Nat.eq_zero_or_pos i with rfl | hp
    · rw [List.getElem?_append_left (by rw [hf]; omega)]; simp
    · obtain ⟨i, rfl⟩ : ∃ q, i = q + 1 := ⟨i - 1, by omega⟩
      rw [List.getElem?_append_right (by rw [hf, Nat.succ_mul]; omega), hf, show (i + 1) * k + j - k = i * k + j by rw [Nat.succ_mul]; omega]
      simp only [List.getElem_cons_succ]
      exact ih i (by simpa using hi)
theorem flat_one {α : Type} (g : α → Value) (l : List α) : l.flatMap (fun x => [g x]) = l.map g := by
  induction l with
  | nil => rfl
  | cons x l ih => rw [List.flatMap_cons, ih]; rfl
section
variable {H : Type} {enc : TypeId × Value → H}
theorem rows_of {α : Type} {f : α → List Value} {Q : α → Prop} {k : Nat} {sl el : TypeId} {w : World} (hf : ∀ x, (f x).length = k) (hk : 0 < k) (hu : Tryz.prog.underlying sl = some (.slice el)) (hce : Tryz.prog.cellsOf el = k)
    (hone : ∀ n cs (x : DataW H × List MemPlace), DataW.trod enc Tryz.prog w 0 (fun _ => true) true n el cs = some x → ∃ e : α, cs = f e ∧ Q e) {fuel : Nat} {v : Value} {x : DataW H × List MemPlace} (h : DataW.trod enc Tryz.prog w 0 (fun _ => true) true fuel sl [v] = some x) :
    ∃ (a : Option Addr) (c : Nat) (l : List α), v = .slice a l.length c ∧ Rd w a (l.length * k) (l.flatMap f) ∧ (∀ e ∈ l, Q e) ∧ l.length ≤ maxLen ∧ l.length ≤ c := by
  rcases open_slice hu h with ⟨hcs, -⟩ | ⟨a, len', cap', m, n, D, Pl, hcs, -, hl, hm, hmm, -, hi⟩
  · simp at hcs
    subst hcs
    exact ⟨none, 0, [], rfl, ⟨by simp, fun h => absurd h (by simp)⟩, by simp, Nat.zero_le _, Nat.zero_le _⟩
  · simp at hcs
    subst hcs
    simp only [if_true] at hmm
    subst hmm
    rw [hce] at hi
    obtain ⟨l, hll, hq⟩ := list_of (n := len') (Q := fun i (e : α) => w.cells? 0 (a.add (i * k)) k = some (f e) ∧ Q e) fun i hin => by
      obtain ⟨cs', hc, ht⟩ := hi i (by omega)
      obtain ⟨e, rfl, he⟩ := hone _ _ _ ht
      exact ⟨e, hc, he⟩
    have hcell : ∀ i (hi : i < l.length) j, j < k → w.cell? (a.add (i * k + j)) = (f l[i])[j]? := fun i hi' j hj => by
      obtain ⟨hc, -⟩ := hq i hi'
      obtain ⟨_, hcl, hat⟩ := World.cells?_some hc
      have := hat j hj
      rwa [Go.Deep.add_add] at this
    refine ⟨some a, _, l, by rw [hll], ⟨flat_len hf l, fun h0 => ?_⟩, fun e he => ?_, by omega, by omega⟩
    · have hl0 : 0 < l.length := Nat.pos_of_mul_pos_right h0
      obtain ⟨b, off, spot⟩ := a
      have c0 := hcell 0 hl0 0 hk
      obtain ⟨u, hu0⟩ : ∃ u, (f l[0])[0]? = some u := ⟨(f l[0])[0]'(by rw [hf]; exact hk), List.getElem?_eq_getElem _⟩
      rw [hu0] at c0
      have hspot : spot = none := by simpa [Addr.add] using World.cell?_spot c0
      subst hspot
      refine ⟨b, off, rfl, ?_, fun q hq2 => ?_⟩
      · have := heap_lt_of_cell c0
        rwa [add_plain] at this
      · have hi2 : q / k < l.length := Nat.div_lt_of_lt_mul (by rw [Nat.mul_comm]; exact hq2)
        have hj2 : q % k < k := Nat.mod_lt _ hk
        have h1 := hcell (q / k) hi2 (q % k) hj2
        have h2 := flat_get hf l (q / k) hi2 (q % k) hj2
        rw [show q / k * k + q % k = q by rw [Nat.mul_comm]; exact Nat.div_add_mod q k] at h1 h2
        rw [h2, ← h1, add_plain]
    · obtain ⟨i, hi', rfl⟩ := List.getElem_of_mem he
      exact (hq i hi').2
theorem wf_u8 {n : Int} (h : (Lit.int .u8 n).wf = true) : 0 ≤ n ∧ n < 256 := by
  simp [Lit.wf, IntKind.min, IntKind.max, IntKind.signed, IntKind.bits] at h
  omega
theorem bytes_of {w : World} {fuel : Nat} {v : Value} {x : DataW H × List MemPlace} (h : DataW.trod enc Tryz.prog w 0 (fun _ => true) true fuel 32 [v] = some x) :
    ∃ (a : Option Addr) (c : Nat) (l : List UInt8), v = .slice a l.length c ∧ Rd w a l.length (u8B l) ∧ l.length ≤ maxLen ∧ l.length ≤ c := by
  obtain ⟨a, c, l, rfl, hr, -, hm, hc⟩ := rows_of (f := fun b : UInt8 => [Value.int .u8 (b.toNat : Int)]) (Q := fun _ => True) (fun _ => rfl) (by decide) Tryz.underlying32 u8Cells (fun n cs x ht => by
    obtain ⟨z, rfl, -, k0⟩ := DataW.trod_int Tryz.underlying5 ht
    obtain ⟨h0, h1⟩ := wf_u8 k0
    refine ⟨UInt8.ofNat z.toNat, ?_, trivial⟩
    rw [UInt8.toNat_ofNat_of_lt' (by show z.toNat < 256; omega), Int.toNat_of_nonneg h0]) h
  rw [flat_one, Nat.mul_one] at hr
  exact ⟨a, c, l, rfl, hr, hm, hc⟩
/-- bytes as they come in -/
theorem open_bytes {W : World} {v : Value} {d : DataW H} {p : List MemPlace} {a0 : Option Addr} {len cap : Nat} (hv : v = .slice a0 len cap)
    (h : DataW.Trod enc Tryz.prog W 0 (fun _ => true) true 32 v d p) :
    ∃ l : List UInt8, l.length = len ∧ Rd W a0 l.length (u8B l) ∧ len ≤ maxLen ∧ len ≤ cap := by
  subst hv
  obtain ⟨fuel, hf⟩ := h
  have hf' : DataW.trod enc Tryz.prog W 0 (fun _ => true) true fuel 32 [.slice a0 len cap] = some _ := hf
  obtain ⟨a, c, l, e, hr, hm, hc⟩ := bytes_of hf'
  cases e
  exact ⟨l, rfl, hr, hm, hc⟩
/-- all arguments read behind a call that makes new blocks alone as they read before -/
theorem asTrod_stays {P : Program} (hl : laidOutB P = true) {W W' : World} (hb : Below W.heap.size W W') {sp : Nat → Bool} :
    ∀ {ts : List TypeId} {vs : List Value} {ds : List (DataW H)} {p : List MemPlace}, (ts.all fun t => P.readableRec t && decide (t < P.types.size)) = true →
      DataW.TrodAll enc P W 0 (fun _ => true) true ts vs ds p → (∀ x ∈ p, x.block < W.heap.size) → (∀ x ∈ p, sp x.block = true) → DataW.TrodAll enc P W' 0 sp true ts vs ds p
  | [], [], [], _, _, h, _, _ => h
  | t :: ts, v :: vs, d :: ds, _, hr, h, hlt, hs => by
    obtain ⟨p, q, h1, h2, rfl⟩ := h
    simp only [List.all_cons, Bool.and_eq_true, decide_eq_true_eq] at hr
    exact ⟨p, q, WideElems.Trod_stays hl hr.1.1 hr.1.2 h1 (fun x hx => hb.same (hlt x (List.mem_append_left _ hx))) (fun x hx => hs x (List.mem_append_left _ hx)),
      asTrod_stays hl hb hr.2 h2 (fun x hx => hlt x (List.mem_append_right _ hx)) (fun x hx => hs x (List.mem_append_right _ hx)), rfl⟩
  | [], [], _ :: _, _, _, h, _, _ => h.elim
  | [], _ :: _, _, _, _, h, _, _ => h.elim
  | _ :: _, [], _, _, _, h, _, _ => h.elim
  | _ :: _, _ :: _, [], _, _, h, _, _ => h.elim

end
end Go.Proofs.YtdpmihlmfephiaaGreatDoor

