/- The program's memory: pages are mapped: what the map says. -/
import Derived.Test.YteaididdamihlaaTmH
namespace Go.Proofs.Yteaididdamihlaa
set_option linter.unusedVariables false
set_option linter.unusedSimpArgs false
open Go.Joins Go.ChangeShapes Go.WideShapes Go.ChangeAt Go.RowKit Go.Deep

def kU (p : Nat) : Lit := .int .u64 (p : Int)
theorem kU_ne {p q : Nat} (h : p ≠ q) : kU p ≠ kU q := by
  intro e
  unfold kU at e
  injection e with _ e
  exact h (Int.ofNat.inj e)
theorem kU_key (p : Nat) : WideAt.IsKeyLit (kU p) := trivial
theorem Says.add {D : DataW Unit} {pb : Nat → Nat} {l : List Nat} (h : Says D pb l) (ht : Maps.Tidy D) (hm : Maps.IsMap D) (p q : Nat) (hp : p ∉ l) (hp1 : p < 18446744073709551616) :
    Says (D.put (kU p) (.lit (.int .i64 (q : Int)))) (fun x => if x = p then q else pb x) (ins p l) := by
  have hh := h.has p hp1
  rw [decide_eq_false hp] at hh
  refine ⟨fun x hx => ?_, fun x hx => ?_, ?_⟩
  · by_cases e : x = p
    · subst e
      rw [show (Lit.int .u64 (x : Int)) = kU x from rfl, Maps.atKey_put_same hm (kU_key x), if_pos ((mem_ins x x l).2 (Or.inl rfl)), if_pos rfl]
    · rw [show (Lit.int .u64 (x : Int)) = kU x from rfl, Maps.atKey_put_other (kU_ne e)]
      have := h.at_ x hx
      rw [show (Lit.int .u64 (x : Int)) = kU x from rfl] at this
      rw [this, if_neg e]
      by_cases hx2 : x ∈ l
      · rw [if_pos hx2, if_pos ((mem_ins p x l).2 (Or.inr hx2))]
      · rw [if_neg hx2, if_neg (fun q => by rcases (mem_ins p x l).1 q with q | q; exact e q; exact hx2 q)]
  · by_cases e : x = p
    · subst e
      rw [show (Lit.int .u64 (x : Int)) = kU x from rfl, Maps.has_put_same hm (kU_key x), decide_eq_true ((mem_ins x x l).2 (Or.inl rfl))]
    · rw [show (Lit.int .u64 (x : Int)) = kU x from rfl, Maps.has_put_other (kU_ne e)]
      have := h.has x hx
      rw [show (Lit.int .u64 (x : Int)) = kU x from rfl] at this
      rw [this]
      refine decide_eq_decide.2 ?_
      rw [mem_ins]
      constructor
      · exact Or.inr
      · rintro (q | q); exact absurd q e; exact q
  · rw [Maps.size_put ht, show Maps.has D (kU p) = false from hh, h.size, length_ins]
    rfl
theorem Says.del {D : DataW Unit} {pb : Nat → Nat} {l : List Nat} (h : Says D pb l) (ht : Maps.Tidy D) (p : Nat) (hp : p ∈ l) (hr : Rise l) (hp1 : p < 18446744073709551616) :
    Says (D.del (kU p)) pb (l.filter (· != p)) := by
  have hh := h.has p hp1
  rw [decide_eq_true hp] at hh
  have hmem : ∀ x, x ∈ l.filter (· != p) ↔ x ∈ l ∧ x ≠ p := fun x => by rw [List.mem_filter]; simp
  refine ⟨fun x hx => ?_, fun x hx => ?_, ?_⟩
  · by_cases e : x = p
    · subst e
      rw [show (Lit.int .u64 (x : Int)) = kU x from rfl, Maps.atKey_del_same, if_neg (fun q => ((hmem x).1 q).2 rfl)]
    · rw [show (Lit.int .u64 (x : Int)) = kU x from rfl, Maps.atKey_del_other (kU_ne e)]
      have := h.at_ x hx
      rw [show (Lit.int .u64 (x : Int)) = kU x from rfl] at this
      rw [this]
      by_cases hx2 : x ∈ l
      · rw [if_pos hx2, if_pos ((hmem x).2 ⟨hx2, e⟩)]
      · rw [if_neg hx2, if_neg (fun q => hx2 ((hmem x).1 q).1)]
  · by_cases e : x = p
    · subst e
      rw [show (Lit.int .u64 (x : Int)) = kU x from rfl, Maps.has_del_same, decide_eq_false (fun q => ((hmem x).1 q).2 rfl)]
    · rw [show (Lit.int .u64 (x : Int)) = kU x from rfl, Maps.has_del_other (kU_ne e)]
      have := h.has x hx
      rw [show (Lit.int .u64 (x : Int)) = kU x from rfl] at this
      rw [this]
      refine decide_eq_decide.2 ?_
      rw [hmem]
      exact ⟨fun q => ⟨q, e⟩, fun q => q.1⟩
  · have hs := Maps.size_del (k := kU p) ht
    rw [show Maps.has D (kU p) = true from hh, if_pos rfl, h.size] at hs
    have hl : (l.filter (· != p)).length + 1 = l.length := by
      clear hs hh h hmem
      induction l with
      | nil => simp at hp
      | cons y r ih =>
        have hy := List.pairwise_cons.1 hr
        by_cases e : y = p
        · subst e
          rw [List.filter_cons_of_neg (by simp), List.length_cons]
          congr 2
          refine List.filter_eq_self.2 fun z hz => ?_
          have := hy.1 z hz
          simp
          omega
        · rw [List.filter_cons_of_pos (by simpa using e), List.length_cons, List.length_cons, ih (by rcases List.mem_cons.1 hp with q | q; exact absurd q.symm e; exact q) hy.2]
    omega
theorem own_size {w : World} {k : TypeId} {R : Value → Option (DataW Unit × List MemPlace)} {b n : Nat} {D : DataW Unit} (h : w.ownsMap Try.prog k R b n D) : w.ownsMap Try.prog k R b (Maps.size D) D := by
  obtain ⟨es, clock, hb, F, hs, rfl⟩ := h
  refine ⟨es, clock, hb, F, ?_, rfl⟩
  simp [Maps.size, length_sorted]
theorem page_addP (m : Mm) (p q : Nat) : pageC (addP m p) q = pageC m q := rfl
theorem page_none {m : Mm} (h : Okm m) {p : Nat} (hp : p ∉ m.pgs) : pageC m p = pgC (fun _ => 0) (fun _ => false) := by
  rw [pageC_eq]
  refine pgC_ext (fun j hj => h.off _ (by rw [show (256 * p + j) / 256 = p by omega]; exact hp)) (fun i hi => decide_eq_false fun e => hp ?_)
  have := h.ml _ e
  rwa [show (8 * p + i) / 8 = p by omega] at this
theorem page_delP (m : Mm) (p q : Nat) (hq : q ≠ p) : pageC (delP m p) q = pageC m q := by
  rw [pageC_eq, pageC_eq]
  refine pgC_ext (fun j hj => ?_) (fun i hi => ?_)
  · show (if (256 * q + j) / 256 = p then 0 else m.by_ (256 * q + j)) = _
    rw [if_neg (by omega)]
  · refine decide_eq_decide.2 ?_
    show 8 * q + i ∈ m.mks.filter _ ↔ _
    rw [List.mem_filter]
    constructor
    · exact fun h => h.1
    · exact fun h => ⟨h, by simp; omega⟩
/-- a page is mapped -/
theorem MemO.add {W : World} {M B : Nat} {D : DataW Unit} {pb : Nat → Nat} {F : Nat → Prop} {m : Mm} (h : MemO W M B D pb F m) (p : Nat) (hp : p ∉ m.pgs) (hp1 : p < 65536) (hl : m.pgs.length < m.bud) :
    ∃ W', (Instr.mapUpdate 58 (.map (some B)) (.int .u64 (p : Int)) (.pointer (some ⟨W.heap.size, 0, none⟩))).run Try.prog (W.alloc (.cells (pgC (fun _ => 0) (fun _ => false)).toArray 78)) = .ok () W' ∧
      (∃ D', MemO W' M B D' (fun x => if x = p then W.heap.size else pb x) (fun b => F b ∨ b = W.heap.size) (addP m p)) ∧ KP W.heap.size (· = B) W W' := by
  have hown := h.own.alloc (.cells (pgC (fun _ => 0) (fun _ => false)).toArray 78)
  have hbd := h.ok.bud
  have hln := h.ok.len
  obtain ⟨W', hrun, hown', ht⟩ := hown.store keyed Try.underlying58 (by unfold maxLen; omega) (key := .int .u64 (p : Int)) (val := .pointer (some ⟨W.heap.size, 0, none⟩)) (key_u64 (p : Int) (by omega) (by omega)) (d := .lit (.int .i64 (W.heap.size : Int))) (ps := []) rfl
  have hg := ht.grown
  have hsz : W.heap.size + 1 ≤ W'.heap.size := by have := hg.size; rwa [size_alloc] at this
  have hbl : ∀ b, b < W.heap.size → b ≠ B → W'.heap[b]? = W.heap[b]? := fun b hb hne => (hg.block b (by rw [size_alloc]; omega) (fun e => hne (by simpa using e))).trans ((bAlloc (Below.refl W.heap.size W) _).block b hb)
  have hB := h.lt _ h.fb
  refine ⟨W', hrun, ⟨D.put (kU p) (.lit (.int .i64 (W.heap.size : Int))), ?_⟩, ⟨hg.os, hg.tape, hg.output, by omega, fun b hb hne => hbl b hb hne⟩⟩
  refine ⟨okm_addP h.ok hp hp1 hl, boxN_block h.box (hbl _ (h.lt _ h.fm) h.mb), ?_, h.says.add (h.own.tidy keyed) h.own.isMap p _ hp (by omega), ?_, ?_, Or.inl h.fm, Or.inl h.fb, ?_, ?_⟩
  · show W'.ownsMap _ _ _ _ (ins p m.pgs).length _
    rw [length_ins]
    exact hown'
  · intro q hq
    rw [page_addP]
    by_cases e : q = p
    · subst e
      rw [if_pos rfl, page_none h.ok hp]
      exact boxN_block (BoxN.new W _ _) (hg.block _ (by rw [size_alloc]; omega) (fun e => by have h9 : W.heap.size = B := (by simpa using e); omega))
    · rw [if_neg e]
      have hq2 : q ∈ m.pgs := by rcases (mem_ins p q _).1 hq with e2 | e2; exact absurd e2 e; exact e2
      exact boxN_block (h.pg q hq2) (hbl _ (h.lt _ (h.fp q hq2)) (h.pB hq2))
  · intro a ha b hb
    have ha2 : a = p ∨ a ∈ m.pgs := (mem_ins p a _).1 ha
    have hb2 : b = p ∨ b ∈ m.pgs := (mem_ins p b _).1 hb
    intro e
    by_cases e1 : a = p
    · by_cases e2 : b = p
      · rw [e1, e2]
      · exfalso
        have hb3 : b ∈ m.pgs := hb2.resolve_left e2
        have := h.lt _ (h.fp b hb3)
        simp only [if_pos e1, if_neg e2] at e
        omega
    · have ha3 : a ∈ m.pgs := ha2.resolve_left e1
      by_cases e2 : b = p
      · exfalso
        have := h.lt _ (h.fp a ha3)
        simp only [if_neg e1, if_pos e2] at e
        omega
      · simp only [if_neg e1, if_neg e2] at e
        exact h.inj a ha3 b (hb2.resolve_left e2) e
  · intro q hq
    by_cases e : q = p
    · simp only [if_pos e]; exact Or.inr trivial
    · simp only [if_neg e]
      exact Or.inl (h.fp q (((mem_ins p q _).1 hq).resolve_left e))
  · rintro b (hb | rfl)
    · have := h.lt b hb; omega
    · omega
/-- a page is unmapped -/
theorem MemO.del {W : World} {M B : Nat} {D : DataW Unit} {pb : Nat → Nat} {F : Nat → Prop} {m : Mm} (h : MemO W M B D pb F m) (p : Nat) (hp : p ∈ m.pgs) (ty : TypeId) :
    ∃ W', (Builtin.delete_ #[58, 29] ty #[.map (some B), .int .u64 (p : Int)]).run Try.prog W = .ok (.tuple #[]) W' ∧ (∃ D', MemO W' M B D' pb F (delP m p)) ∧ KP W.heap.size (· = B) W W' := by
  have hp1 := h.ok.pl p hp
  obtain ⟨W', hrun, hown', ht⟩ := h.own.drop keyed Try.underlying58 (key_u64 (p : Int) (by omega) (by omega)) ty
  have hg := ht.grown
  have hbl : ∀ b, b < W.heap.size → b ≠ B → W'.heap[b]? = W.heap[b]? := fun b hb hne => hg.block b hb (fun e => hne (by simpa using e))
  have hsay := h.says.del (h.own.tidy keyed) p hp h.ok.pr (by omega)
  refine ⟨W', hrun, ⟨D.del (kU p), ?_⟩, ⟨hg.os, hg.tape, hg.output, hg.size, fun b hb hne => hbl b hb hne⟩⟩
  have hmem : ∀ q, q ∈ m.pgs.filter (· != p) → q ∈ m.pgs ∧ q ≠ p := fun q hq => by have := List.mem_filter.1 hq; exact ⟨this.1, by simpa using this.2⟩
  refine ⟨okm_delP h.ok p, boxN_block h.box (hbl _ (h.lt _ h.fm) h.mb), ?_, hsay, ?_, ?_, h.fm, h.fb, fun q hq => h.fp q (hmem q hq).1, fun b hb => Nat.lt_of_lt_of_le (h.lt b hb) hg.size⟩
  · have h1 := own_size hown'
    rw [show Maps.size (D.del (.int .u64 (p : Int))) = (m.pgs.filter (· != p)).length from hsay.size] at h1
    exact h1
  · intro q hq
    obtain ⟨h1, h2⟩ := hmem q hq
    rw [page_delP m p q h2]
    exact boxN_block (h.pg q h1) (hbl _ (h.lt _ (h.fp q h1)) (h.pB h1))
  · intro a ha b hb e
    exact h.inj a (hmem a ha).1 b (hmem b hb).1 e
end Go.Proofs.Yteaididdamihlaa
