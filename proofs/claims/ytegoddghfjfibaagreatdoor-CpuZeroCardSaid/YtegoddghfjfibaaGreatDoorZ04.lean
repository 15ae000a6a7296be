/- Ta2 So1 So2 So3 SoK SoL -/
import Derived.Test.YtegoddghfjfibaaGreatDoorZ03
import Derived.Deep.RegionLaw
import Derived.Carry
import Derived.Sort.Walk13a
import Derived.Sort.LotB
import Derived.CellFam
import Derived.BigQuiet
import Derived.BigGuard
import Derived.BigCall
import Derived.Deep.LoopGhost
import Derived.Deep.QuietTactic
import Derived.Deep.Draws
import Derived.Deep.RegionWith
import Derived.Deep.Cut
import Derived.Test.YtegoddghfjfibaaGreatDoorShelf
import Derived.Laws.Bits64
import Derived.Laws.Bits64b
import Derived.Sort.LotA
import Derived.Sort.LotC
import Derived.Sort.LotD3
namespace Go.Proofs.YtegoddghfjfibaaGreatDoor
set_option linter.unusedVariables false
set_option linter.unusedSimpArgs false
open Go.Joins Go.ChangeShapes Go.WideShapes Go.ChangeAt Go.RowKit Go.Deep

theorem manyB_add (m : Mm) (a n k : Nat) : manyB m a (n + k) = manyB m a n ++ manyB m (a + n) k := by
  unfold manyB
  rw [List.range_add, List.map_append, List.map_map]
  congr 1
  apply List.map_congr_left
  intro i _
  simp [Nat.add_assoc]
theorem grownB {w w1 w2 : World} {row : Option Nat} (h : Below w.heap.size w w1) (hg : w1.grownBy w2 row) (hr : ∀ q, row = some q → w.heap.size ≤ q) : Below w.heap.size w w2 :=
  h.trans ⟨hg.os, hg.tape, hg.output, hg.size, fun b hb => hg.block b (Nat.lt_of_lt_of_le hb h.size) (fun e => by have := hr b e.symm; omega)⟩
end Go.Proofs.YtegoddghfjfibaaGreatDoor

namespace Go.Proofs.YtegoddghfjfibaaGreatDoor
set_option linter.unusedVariables false
set_option linter.unusedSimpArgs false
open Go.Joins Go.ChangeShapes Go.WideShapes Go.ChangeAt Go.RowKit Go.Deep

/-- a row with its first n elements cut off -/
def cutA (a : Option Addr) (n c : Nat) : Option Addr := if c = n then a else a.map fun x => x.add n
theorem run_cutB (w : World) (a : Option Addr) (n m c : Nat) (hn : n ≤ m) (hc : m ≤ c) : (Instr.sliceAt 42 (.slice a m c) (some (.int .i64 (n : Int))) none none).run Tryz.prog w = .ok (.slice (cutA a n c) (m - n) (c - n)) w := by
  have hu := Tryz.underlying42
  have ho : (sizeOf 5).run Tryz.prog w = .ok 1 w := by kernel_rfl
  have he : Tryz.prog.elem 42 = 5 := by kernel_rfl
  rw [run_sliceAt_slice w 42 _ _ _ _ (by rw [he]; exact hu), run_slice_l w 42 a m c (by rw [he]; exact hu) .i64 (n : Int) (by omega) (by omega), he, ho]
  simp [Result.andThen, sliced, cutA]
end Go.Proofs.YtegoddghfjfibaaGreatDoor

namespace Go.Proofs.YtegoddghfjfibaaGreatDoor
set_option linter.unusedVariables false
set_option linter.unusedSimpArgs false
open Go.Joins Go.ChangeShapes Go.WideShapes Go.ChangeAt Go.RowKit Go.Deep

def kU (p : Nat) : Lit := .int .u64 (p : Int)
theorem kU_ne {p q : Nat} (h : p ≠ q) : kU p ≠ kU q := by
  intro e
  unfold kU at e
  injection e with _ e
  exact h (Int.ofNat.inj e)
theorem kU_key (p : Nat) : WideAt.IsKeyLit (kU p) := trivial
theorem Says.add {D : DataW Unit} {pb : Nat → Nat} {l : List Nat} (h : Says D pb l) (ht : Maps.Tidy D) (hm : Maps.IsMap D) (p q : Nat) (hp : p ∉ l) (hp1 : p < 18446744073709551616) :
    Says (D.put (kU p) (.lit (.int .i64 (q : Int)))) (fun x => if x = p then q else pb x) (ins p l) := by
  have hh := h.has p hp1
  rw [decide_eq_false hp] at hh
  refine ⟨fun x hx => ?_, fun x hx => ?_, ?_⟩
  · by_cases e : x = p
    · subst e
      rw [show (Lit.int .u64 (x : Int)) = kU x from rfl, Maps.atKey_put_same hm (kU_key x), if_pos ((mem_ins x x l).2 (Or.inl rfl)), if_pos rfl]
    · rw [show (Lit.int .u64 (x : Int)) = kU x from rfl, Maps.atKey_put_other (kU_ne e)]
      have := h.at_ x hx
      rw [show (Lit.int .u64 (x : Int)) = kU x from rfl] at this
      rw [this, if_neg e]
      by_cases hx2 : x ∈ l
      · rw [if_pos hx2, if_pos ((mem_ins p x l).2 (Or.inr hx2))]
      · rw [if_neg hx2, if_neg (fun q => by rcases (mem_ins p x l).1 q with q | q; exact e q; exact hx2 q)]
  · by_cases e : x = p
    · subst e
      rw [show (Lit.int .u64 (x : Int)) = kU x from rfl, Maps.has_put_same hm (kU_key x), decide_eq_true ((mem_ins x x l).2 (Or.inl rfl))]
    · rw [show (Lit.int .u64 (x : Int)) = kU x from rfl, Maps.has_put_other (kU_ne e)]
      have := h.has x hx
      rw [show (Lit.int .u64 (x : Int)) = kU x from rfl] at this
      rw [this]
      refine decide_eq_decide.2 ?_
      rw [mem_ins]
      constructor
      · exact Or.inr
      · rintro (q | q); exact absurd q e; exact q
  · rw [Maps.size_put ht, show Maps.has D (kU p) = false from hh, h.size, length_ins]
    rfl
theorem page_addP (m : Mm) (p q : Nat) : pageC (addP m p) q = pageC m q := rfl
theorem page_none {m : Mm} (h : Okm m) {p : Nat} (hp : p ∉ m.pgs) : pageC m p = pgC (fun _ => 0) (fun _ => false) := by
  rw [pageC_eq]
  refine pgC_ext (fun j hj => h.off _ (by rw [show (256 * p + j) / 256 = p by omega]; exact hp)) (fun i hi => decide_eq_false fun e => hp ?_)
  have := h.ml _ e
  rwa [show (8 * p + i) / 8 = p by omega] at this
/-- a page is mapped -/
theorem MemO.add {W : World} {M B : Nat} {D : DataW Unit} {pb : Nat → Nat} {F : Nat → Prop} {m : Mm} (h : MemO W M B D pb F m) (p : Nat) (hp : p ∉ m.pgs) (hp1 : p < 65536) (hl : m.pgs.length < m.bud) :
    ∃ W', (Instr.mapUpdate 112 (.map (some B)) (.int .u64 (p : Int)) (.pointer (some ⟨W.heap.size, 0, none⟩))).run Tryz.prog (W.alloc (.cells (pgC (fun _ => 0) (fun _ => false)).toArray 102)) = .ok () W' ∧
      (∃ D', MemO W' M B D' (fun x => if x = p then W.heap.size else pb x) (fun b => F b ∨ b = W.heap.size) (addP m p)) ∧ KP W.heap.size (· = B) W W' := by
  have hown := h.own.alloc (.cells (pgC (fun _ => 0) (fun _ => false)).toArray 102)
  have hbd := h.ok.bud
  have hln := h.ok.len
  obtain ⟨W', hrun, hown', ht⟩ := hown.store keyed Tryz.underlying112 (by unfold maxLen; omega) (key := .int .u64 (p : Int)) (val := .pointer (some ⟨W.heap.size, 0, none⟩)) (key_u64 (p : Int) (by omega) (by omega)) (d := .lit (.int .i64 (W.heap.size : Int))) (ps := []) rfl
  have hg := ht.grown
  have hsz : W.heap.size + 1 ≤ W'.heap.size := by have := hg.size; rwa [size_alloc] at this
  have hbl : ∀ b, b < W.heap.size → b ≠ B → W'.heap[b]? = W.heap[b]? := fun b hb hne => (hg.block b (by rw [size_alloc]; omega) (fun e => hne (by simpa using e))).trans ((bAlloc (Below.refl W.heap.size W) _).block b hb)
  have hB := h.lt _ h.fb
  refine ⟨W', hrun, ⟨D.put (kU p) (.lit (.int .i64 (W.heap.size : Int))), ?_⟩, ⟨hg.os, hg.tape, hg.output, by omega, fun b hb hne => hbl b hb hne⟩⟩
  refine ⟨okm_addP h.ok hp hp1 hl, boxN_block h.box (hbl _ (h.lt _ h.fm) h.mb), ?_, h.says.add (h.own.tidy keyed) h.own.isMap p _ hp (by omega), ?_, ?_, Or.inl h.fm, Or.inl h.fb, ?_, ?_⟩
  · show W'.ownsMap _ _ _ _ (ins p m.pgs).length _
    rw [length_ins]
    exact hown'
  · intro q hq
    rw [page_addP]
    by_cases e : q = p
    · subst e
      rw [if_pos rfl, page_none h.ok hp]
      exact boxN_block (BoxN.new W _ _) (hg.block _ (by rw [size_alloc]; omega) (fun e => by have h9 : W.heap.size = B := (by simpa using e); omega))
    · rw [if_neg e]
      have hq2 : q ∈ m.pgs := by rcases (mem_ins p q _).1 hq with e2 | e2; exact absurd e2 e; exact e2
      exact boxN_block (h.pg q hq2) (hbl _ (h.lt _ (h.fp q hq2)) (h.pB hq2))
  · intro a ha b hb
    have ha2 : a = p ∨ a ∈ m.pgs := (mem_ins p a _).1 ha
    have hb2 : b = p ∨ b ∈ m.pgs := (mem_ins p b _).1 hb
    intro e
    by_cases e1 : a = p
    · by_cases e2 : b = p
      · rw [e1, e2]
      · exfalso
        have hb3 : b ∈ m.pgs := hb2.resolve_left e2
        have := h.lt _ (h.fp b hb3)
        simp only [if_pos e1, if_neg e2] at e
        omega
    · have ha3 : a ∈ m.pgs := ha2.resolve_left e1
      by_cases e2 : b = p
      · exfalso
        have := h.lt _ (h.fp a ha3)
        simp only [if_neg e1, if_pos e2] at e
        omega
      · simp only [if_neg e1, if_neg e2] at e
        exact h.inj a ha3 b (hb2.resolve_left e2) e
  · intro q hq
    by_cases e : q = p
    · simp only [if_pos e]; exact Or.inr trivial
    · simp only [if_neg e]
      exact Or.inl (h.fp q (((mem_ins p q _).1 hq).resolve_left e))
  · rintro b (hb | rfl)
    · have := h.lt b hb; omega
    · omega
end Go.Proofs.YtegoddghfjfibaaGreatDoor

namespace Go.Proofs.YtegoddghfjfibaaGreatDoor
set_option linter.unusedVariables false
set_option linter.unusedSimpArgs false
open Go.Joins Go.ChangeShapes Go.WideShapes Go.ChangeAt Go.RowKit Go.Deep

def emptyM (b : Nat) : Mm := ⟨[], fun _ => 0, [], b⟩
theorem okm_empty (b : Nat) (hb : b ≤ 256) : Okm (emptyM b) := ⟨List.Pairwise.nil, by simp [emptyM], by simp [emptyM], hb, fun a => by simp [emptyM], fun a _ => rfl, List.Pairwise.nil, by simp [emptyM]⟩
def badB (b : Int) : Bool := decide (b < 0) || decide (256 < b)
set_option maxRecDepth 20000 in
theorem new_any (b : Int) (W : World) :
    Calls Tryz.prog 29 #[.int .i64 b] W fun e W' => (badB b = true ∧ e = .returned (.tuple #[.pointer none, .int .i64 1]) ∧ W = W') ∨ (badB b = false ∧ ∃ M, e = .returned (.tuple #[.pointer (some ⟨M, 0, none⟩), .int .i64 0]) ∧ W.heap.size ≤ M ∧ MemAt W' M (fun q => W.heap.size ≤ q ∧ q < W'.heap.size) (emptyM b.toNat) ∧ Below W.heap.size W W') := by
  by_cases h1 : b < 0
  · have hb : badB b = true := by unfold badB; rw [decide_eq_true h1]; rfl
    have HB := Lib.hid hb
    clear hb
    go_enter Tryz.func29, Tryz.ntmps29
    go_wp2_with fail
    go_ret2
    exact Or.inl ⟨HB.out, rfl, rfl⟩
  · by_cases h2 : 256 < b
    · have hb : badB b = true := by unfold badB; rw [decide_eq_true h2]; simp
      have HB := Lib.hid hb
      clear hb
      go_enter Tryz.func29, Tryz.ntmps29
      go_wp2_with fail
      go_ret2
      exact Or.inl ⟨HB.out, rfl, rfl⟩
    · have hb : badB b = false := by unfold badB; rw [decide_eq_false h1, decide_eq_false h2]; rfl
      have HB := Lib.hid hb
      have hmm := @run_makeMap Tryz.prog
      have HN : Hid (0 ≤ b ∧ b ≤ 256) := Lib.hid (by omega)
      clear hb
      go_enter Tryz.func29, Tryz.ntmps29
      go_wp2_with fail
      go_ret2
      refine Or.inr ⟨HB.out, _, rfl, ?_, ?_, bAlloc (bAlloc (Below.refl _ _) _) _⟩
      · simp
      · refine ⟨W.heap.size, .map [], fun _ => 0, okm_empty _ (by have := HN.out; omega), ?_, (World.ownsMap_made _ _ _ _).alloc _, ⟨fun p _ => by simp [emptyM]; rfl, fun p _ => rfl, rfl⟩, by simp [emptyM], by simp [emptyM], ?_, ?_, by simp [emptyM], fun b hb => hb.2⟩
        · have h := BoxN.new (W.alloc (.map #[] 0)) #[.map (some W.heap.size), .int .i64 b] 114
          rw [size_alloc] at h
          rw [show ((emptyM b.toNat).bud : Int) = b by have := HN.out; show ((b.toNat : Nat) : Int) = b; omega]
          exact h
        · simp
        · simp; omega
theorem zeroP : (pgC (fun _ => 0) (fun _ => false)).toArray = Tryz.zeroCells102 := by kernel_rfl
theorem MemO.len {W : World} {M B : Nat} {D : DataW Unit} {pb : Nat → Nat} {F : Nat → Prop} {m : Mm} (h : MemO W M B D pb F m) (ty : TypeId) : (Builtin.len_ #[112] ty #[.map (some B)]).run Tryz.prog W = .ok (.int .i64 (m.pgs.length : Int)) W := by
  have := h.own.len Tryz.underlying112 ty
  rw [h.says.size] at this
  exact this
set_option maxRecDepth 100000 in
set_option maxHeartbeats 1000000 in
theorem map_any (W : World) (M : Nat) (F : Nat → Prop) (m : Mm) (h : MemAt W M F m) (f n : Int) (hf0 : 0 ≤ f) (hf1 : f < 18446744073709551616) (hn0 : -9223372036854775808 ≤ n) (hn1 : n < 9223372036854775808) :
    Calls Tryz.prog 31 #[.pointer (some ⟨M, 0, none⟩), .int .u64 f, .int .i64 n] W fun e W' => e = .returned (.int .i64 (mapF m f n).2) ∧ ∃ F', MemAt W' M F' (mapF m f n).1 ∧ (∀ b, F' b → F b ∨ W.heap.size ≤ b) ∧ KP W.heap.size F W W' := by
  obtain ⟨B, D, pb, h⟩ := h
  have HA := Lib.hid (areP_any f n W hf0 hf1 hn0 hn1)
  clear hn0 hn1
  cases hbad : badP f n with
  | true =>
    have hp : mapF m f n = (m, 1) := by unfold mapF; rw [if_pos hbad]
    rw [hp]
    rw [hbad] at HA
    have HM0 := Lib.hid h.at_
    clear hp hbad h
    go_enter Tryz.func31, Tryz.ntmps31
    go_wp2_with fail
    refine HA.out.mono ?_; rintro e W0 ⟨rfl, rfl⟩
    go_wp2_with fail
    go_ret
    exact ⟨rfl, F, HM0.out, fun b hb => Or.inl hb, KP.refl _ _ _⟩
  | false =>
    rw [hbad] at HA
    obtain ⟨g1, g2, g3, g4⟩ : 1 ≤ n ∧ n ≤ 65536 ∧ f < 65536 ∧ f + n ≤ 65536 := by
      unfold badP at hbad
      simp only [Bool.or_eq_false_iff, decide_eq_false_iff_not] at hbad
      omega
    obtain ⟨f, rfl⟩ := Int.eq_ofNat_of_zero_le hf0
    obtain ⟨n, rfl⟩ := Int.eq_ofNat_of_zero_le (show 0 ≤ n by omega)
    have hfn : f + n ≤ 65536 := by omega
    have hn : 0 < n := by omega
    clear hf0 hf1 g1 g2 g3 g4
    have HMP := Lib.hid (mapped_any W M B D pb F m h f n hfn)
    have hany := manyP_any m f n
    have hmle := manyP_le m f n
    obtain ⟨mp, hmp⟩ : ∃ z, manyP m f n = z := ⟨_, rfl⟩
    rw [hmp] at HMP hany hmle
    cases han : anyIn m f n with
    | true =>
      have hp : mapF m f n = (m, 32) := by unfold mapF; rw [if_neg (by rw [hbad]; decide), Int.toNat_natCast, Int.toNat_natCast, if_pos han]
      rw [hp]
      rw [han] at hany
      have hmp0 : (0 : Int) < (mp : Int) := by have := of_decide_eq_true hany; omega
      have HM0 := Lib.hid h.at_
      clear hp hbad h hany han hmp
      go_enter Tryz.func31, Tryz.ntmps31
      go_wp2_with fail
      refine HA.out.mono ?_; rintro e W0 ⟨rfl, rfl⟩
      go_wp2_with fail
      refine HMP.out.mono ?_; rintro e W0 ⟨rfl, rfl⟩
      go_wp2_with fail
      go_ret
      exact ⟨rfl, F, HM0.out, fun b hb => Or.inl hb, KP.refl _ _ _⟩
    | false =>
      rw [han] at hany
      have hmp0 : mp = 0 := by have := of_decide_eq_false hany; omega
      subst hmp0
      have hlen := fun q => (h.below (below_dN W q)).len 3
      have c0 : W.cell? ⟨M, 0, none⟩ = some (.map (some B)) := h.box.cell 0
      have c1 : W.cell? ⟨M, 1, none⟩ = some (.int .i64 (m.bud : Int)) := h.box.cell 1
      have hbud := h.ok.bud
      have hpl := h.ok.len
      obtain ⟨u, hu⟩ : ∃ z, m.pgs.length = z := ⟨_, rfl⟩
      obtain ⟨v, hv⟩ : ∃ z, m.bud = z := ⟨_, rfl⟩
      rw [hv] at c1 hbud
      simp only [hu] at hlen
      rw [hu, hv] at hpl
      have w0 : IntKind.i64.wrap ((u : Int) + (n : Int)) = (u : Int) + (n : Int) := by rw [IntKind.wrap_i64]; omega
      by_cases hb : v < u + n
      · have hp : mapF m f n = (m, 33) := by unfold mapF; rw [if_neg (by rw [hbad]; decide), Int.toNat_natCast, Int.toNat_natCast, if_neg (by rw [han]; decide), if_pos (by rw [hu, hv]; exact hb)]
        rw [hp]
        have hbi : (v : Int) < (u : Int) + (n : Int) := by omega
        have HM0 := Lib.hid h.at_
        clear hp hbad h hany han hmp hu hv hpl hbud
        go_enter Tryz.func31, Tryz.ntmps31
        go_wp2_with fail
        refine HA.out.mono ?_; rintro e W0 ⟨rfl, rfl⟩
        go_wp2_with fail
        refine HMP.out.mono ?_; rintro e W0 ⟨rfl, rfl⟩
        go_wp2_with fail
        go_quiet (fail)
        go_wp2_with fail
        go_ret
        exact ⟨rfl, F, HM0.out.below (below_dN _ _), fun b hb => Or.inl hb, KP.of_below _ (below_dN _ _)⟩
      · have hp : mapF m f n = (addN m f n, 0) := by unfold mapF; rw [if_neg (by rw [hbad]; decide), Int.toNat_natCast, Int.toNat_natCast, if_neg (by rw [han]; decide), if_neg (by rw [hu, hv]; exact hb)]
        rw [hp]
        have hbi : ¬ (v : Int) < (u : Int) + (n : Int) := by omega
        have w1 : IntKind.u64.wrap (n : Int) = (n : Int) := by rw [IntKind.wrap_u64]; omega
        have HNO : Hid (∀ i, i < n → f + i ∉ m.pgs) := Lib.hid (fun i hi e => by
          have : anyIn m f n = true := List.any_eq_true.2 ⟨i, List.mem_range.2 hi, decide_eq_true e⟩
          rw [han] at this
          cases this)
        have HBU : Hid (m.pgs.length + n ≤ m.bud) := Lib.hid (by rw [hu, hv]; omega)
        have HM0 := Lib.hid h
        clear hp hbad h hany han hmp hu hv hpl hbud
        go_enter Tryz.func31, Tryz.ntmps31
        go_wp2_with fail
        refine HA.out.mono ?_; rintro e W0 ⟨rfl, rfl⟩
        go_wp2_with fail
        refine HMP.out.mono ?_; rintro e W0 ⟨rfl, rfl⟩
        go_wp2_with fail
        go_quiet (fail)
        go_wp2_with fail
        go_loopw [7, 35] (fun _ iv wr => ∃ k : Nat, iv = .int .u64 k ∧ k ≤ n ∧ Hid (∃ D' pb' F', MemO wr M B D' pb' F' (addN m f k) ∧ (∀ b, F' b → F b ∨ W.heap.size ≤ b)) ∧ Hid (KP W.heap.size F W wr)) (fun _ iv _ => n - (intOf iv).toNat)
        case atStart => exact ⟨0, rfl, by omega, Lib.hid ⟨D, pb, F, HM0.out.below (below_dN _ _), fun b hb => Or.inl hb⟩, Lib.hid (KP.of_below _ (below_dN _ _))⟩
        case round =>
          obtain ⟨k, rfl, hk, HE, HK⟩ := hrel
          clear hlen c0 c1
          obtain ⟨D2, pb2, F2, hM, hF2⟩ := HE.out
          by_cases hlt : k < n
          · have hkk : (k : Int) < (n : Int) := by omega
            have c0 : wr.cell? ⟨M, 0, none⟩ = some (.map (some B)) := hM.box.cell 0
            have w2 : IntKind.u64.wrap ((f : Int) + (k : Int)) = (f : Int) + (k : Int) := by rw [IntKind.wrap_u64]; omega
            have w3 : IntKind.u64.wrap ((k : Int) + 1) = (k : Int) + 1 := by rw [IntKind.wrap_u64]; omega
            have hno : f + k ∉ (addN m f k).pgs := fun e => by
              rcases (addN_mem m f k _).1 e with q | q
              · omega
              · exact HNO.out k hlt q
            obtain ⟨W3, hrun, ⟨D3, hM3⟩, hk3⟩ := hM.add (f + k) hno (by omega) (by rw [(addN_len m f k).1, (addN_len m f k).2.1]; have := HBU.out; omega)
            rw [zeroP, show ((f + k : Nat) : Int) = (f : Int) + (k : Int) by omega] at hrun
            have HE3 : Hid (∃ D' pb' F', MemO W3 M B D' pb' F' (addN m f (k + 1)) ∧ (∀ b, F' b → F b ∨ W.heap.size ≤ b)) := Lib.hid ⟨_, _, _, hM3, fun b hb => by
              rcases hb with hb | hb
              · exact hF2 b hb
              · right; rw [hb]; exact HK.out.size⟩
            have HK3 : Hid (KP W.heap.size F W W3) := Lib.hid (HK.out.trans (hk3.mono HK.out.size (fun b hb e => by rw [show b = B from e]; exact HM0.out.fb)))
            clear hM hno hM3 hk3 hF2 HE HK
            go_wp2_with fail
            go_roundw
            case rel => exact ⟨k + 1, by go_num, by omega, HE3, HK3⟩
            case measure => simp [intOf]; omega
          · obtain rfl : k = n := by omega
            have HM3 : Hid (∃ F', MemAt wr M F' (addN m f k) ∧ ∀ b, F' b → F b ∨ W.heap.size ≤ b) := Lib.hid ⟨F2, hM.at_, hF2⟩
            clear hM hF2 HE
            go_wp2_with fail
            go_ret
            obtain ⟨F', h1, h2⟩ := HM3.out
            exact ⟨rfl, F', h1, h2, HK.out⟩
end Go.Proofs.YtegoddghfjfibaaGreatDoor

namespace Go.Proofs.YtegoddghfjfibaaGreatDoor
set_option linter.unusedVariables false
set_option linter.unusedSimpArgs false
open Go.Joins Go.ChangeShapes Go.WideShapes Go.ChangeAt Go.RowKit Go.Deep

end Go.Proofs.YtegoddghfjfibaaGreatDoor


namespace Go.Proofs.YtegoddghfjfibaaGreatDoor
set_option linter.unusedVariables false
set_option linter.unusedSimpArgs false
open Go.Joins Go.ChangeShapes Go.WideShapes Go.ChangeAt Go.RowKit Go.Deep

/-- the world w0 with row g holding d; what is new lies behind -/
structure Sw (w0 : World) (g cap : Nat) (e : TypeId) (d : Array Int) (W : World) : Prop where
  kp : KP w0.heap.size (· = g) w0 W
  gl : g < w0.heap.size
  sz : d.size ≤ cap
  blk : ∃ cur, W.heap[g]? = some (.cells cur e (0, 0)) ∧ cur.size = cap ∧ ∀ j, j < d.size → cur[j]? = some (.int .u64 d[j]!)
theorem Sw.c {w0 W : World} {g cap : Nat} {e : TypeId} {d : Array Int} (h : Sw w0 g cap e d W) (t : Nat) (ht : t < d.size) : W.cell? ⟨g, t, none⟩ = some (.int .u64 d[t]!) := by
  obtain ⟨cur, hb, -, hc⟩ := h.blk
  simp [World.cell?, hb, hc t ht]
theorem Sw.f {w0 W : World} {g cap : Nat} {e : TypeId} {d : Array Int} (h : Sw w0 g cap e d W) (t : Nat) : W.frozen? ⟨g, t, none⟩ = false := by
  obtain ⟨cur, hb, -, hc⟩ := h.blk
  simp [World.frozen?, hb]
theorem Sw.glW {w0 W : World} {g cap : Nat} {e : TypeId} {d : Array Int} (h : Sw w0 g cap e d W) : g < W.heap.size := Nat.lt_of_lt_of_le h.gl h.kp.size
theorem Sw.drewN {w0 W : World} {g cap : Nat} {e : TypeId} {d : Array Int} (h : Sw w0 g cap e d W) (n : Nat) : Sw w0 g cap e d (W.drewN n) :=
  ⟨h.kp.trans ⟨rfl, rfl, rfl, Nat.le_refl _, fun _ _ _ => rfl⟩, h.gl, h.sz, h.blk⟩
theorem Sw.drew {w0 W : World} {g cap : Nat} {e : TypeId} {d : Array Int} (h : Sw w0 g cap e d W) : Sw w0 g cap e d W.drew := h.drewN 1
theorem Sw.alloc {w0 W : World} {g cap : Nat} {e : TypeId} {d : Array Int} (h : Sw w0 g cap e d W) (o : Obj) : Sw w0 g cap e d (W.alloc o) :=
  ⟨h.kp.alloc o h.kp.size, h.gl, h.sz, by
    obtain ⟨cur, hb, r⟩ := h.blk
    exact ⟨cur, by rw [← hb]; exact (bAlloc (Below.refl W.heap.size W) o).block g h.glW, r⟩⟩
theorem Sw.setNew {w0 W : World} {g cap : Nat} {e : TypeId} {d : Array Int} (h : Sw w0 g cap e d W) (b off : Nat) (hb : w0.heap.size ≤ b) (v : Value) : Sw w0 g cap e d (W.setCell ⟨b, off, none⟩ v) :=
  ⟨h.kp.set ⟨b, off, none⟩ (Or.inl hb) v, h.gl, h.sz, by
    obtain ⟨cur, hc, r⟩ := h.blk
    exact ⟨cur, by rw [← hc]; exact Below.heap_setCell _ _ _ _ (by have := h.gl; show g ≠ b; omega), r⟩⟩
theorem Sw.store {w0 W : World} {g cap : Nat} {e : TypeId} {d : Array Int} (h : Sw w0 g cap e d W) (i : Nat) (x : Int) : Sw w0 g cap e (d.setIfInBounds i x) (W.setCell ⟨g, i, none⟩ (.int .u64 x)) :=
  ⟨h.kp.set ⟨g, i, none⟩ (Or.inr rfl) _, h.gl, by rw [Array.size_setIfInBounds]; exact h.sz, by
    obtain ⟨cur, hc, hs, r⟩ := h.blk
    refine ⟨cur.setIfInBounds i (.int .u64 x), ?_, by rw [Array.size_setIfInBounds]; exact hs, fun j hj => ?_⟩
    · show (W.heap.modify g _)[g]? = _
      obtain ⟨hlt, hk⟩ := Array.getElem?_eq_some_iff.1 hc
      rw [Array.getElem?_eq_getElem (by rw [Array.size_modify]; exact hlt), Array.getElem_modify_self, hk]
      rfl
    · rw [Array.size_setIfInBounds] at hj
      by_cases e : j = i
      · subst e
        have hjc : j < cur.size := by
          have := r j hj
          exact (Array.getElem?_eq_some_iff.1 this).1
        rw [Sort.getElem!_set_same d j x hj, Array.getElem?_setIfInBounds_self_of_lt hjc]
      · rw [Sort.getElem!_set_other d i j x e, Array.getElem?_setIfInBounds_ne (fun q => e q.symm), r j hj]⟩
end Go.Proofs.YtegoddghfjfibaaGreatDoor

namespace Go.Proofs.YtegoddghfjfibaaGreatDoor
set_option linter.unusedVariables false
set_option linter.unusedSimpArgs false
open Go.Joins Go.ChangeShapes Go.WideShapes Go.ChangeAt Go.RowKit Go.Deep

section
variable {α : Type} [Inhabited α] (lt : α → α → Bool)
end
end Go.Proofs.YtegoddghfjfibaaGreatDoor

namespace Go.Proofs.YtegoddghfjfibaaGreatDoor
set_option linter.unusedVariables false
set_option linter.unusedSimpArgs false
open Go.Joins Go.ChangeShapes Go.WideShapes Go.ChangeAt Go.RowKit Go.Deep

section
variable {α : Type} [Inhabited α] (lt : α → α → Bool)
end
end Go.Proofs.YtegoddghfjfibaaGreatDoor

namespace Go.Proofs.YtegoddghfjfibaaGreatDoor
set_option linter.unusedVariables false
set_option linter.unusedSimpArgs false
open Go.Joins Go.ChangeShapes Go.WideShapes Go.ChangeAt Go.RowKit Go.Deep

end Go.Proofs.YtegoddghfjfibaaGreatDoor


namespace Go.Proofs.YtegoddghfjfibaaGreatDoor
set_option linter.unusedVariables false
set_option linter.unusedSimpArgs false
open Go.Joins Go.ChangeShapes Go.WideShapes Go.ChangeAt Go.RowKit Go.Deep

/-- .. and a counter in a new block -/
structure Cw (w0 : World) (g cap : Nat) (e : TypeId) (d : Array Int) (c s : Nat) (W : World) : Prop where
  sw : Sw w0 g cap e d W
  cl : w0.heap.size ≤ c
  cb : BoxN W c #[.int .i64 s]
theorem Cw.drewN {w0 W : World} {g cap c s : Nat} {e : TypeId} {d : Array Int} (h : Cw w0 g cap e d c s W) (n : Nat) : Cw w0 g cap e d c s (W.drewN n) := ⟨h.sw.drewN n, h.cl, h.cb⟩
end Go.Proofs.YtegoddghfjfibaaGreatDoor

namespace Go.Proofs.YtegoddghfjfibaaGreatDoor
set_option linter.unusedVariables false
set_option linter.unusedSimpArgs false
open Go.Joins Go.ChangeShapes Go.WideShapes Go.ChangeAt Go.RowKit Go.Deep

end Go.Proofs.YtegoddghfjfibaaGreatDoor

namespace Go.Proofs.YtegoddghfjfibaaGreatDoor
set_option linter.unusedVariables false
set_option linter.unusedSimpArgs false
open Go.Joins Go.ChangeShapes Go.WideShapes Go.ChangeAt Go.RowKit Go.Deep

/-- .. and a generator's state in a new block -/
structure Dw (w0 : World) (g cap : Nat) (e : TypeId) (d : Array Int) (c s : Nat) (W : World) : Prop where
  sw : Sw w0 g cap e d W
  cl : w0.heap.size ≤ c
  cb : BoxN W c #[.int .u64 s]
  sl : s < 18446744073709551616
theorem Dw.drewN {w0 W : World} {g cap c s : Nat} {e : TypeId} {d : Array Int} (h : Dw w0 g cap e d c s W) (n : Nat) : Dw w0 g cap e d c s (W.drewN n) := ⟨h.sw.drewN n, h.cl, h.cb, h.sl⟩
theorem Dw.drew {w0 W : World} {g cap c s : Nat} {e : TypeId} {d : Array Int} (h : Dw w0 g cap e d c s W) : Dw w0 g cap e d c s W.drew := ⟨h.sw.drewN 1, h.cl, h.cb, h.sl⟩
theorem Dw.put {w0 W : World} {g cap c s : Nat} {e : TypeId} {d : Array Int} (h : Dw w0 g cap e d c s W) (t : Nat) (ht : t < 18446744073709551616) : Dw w0 g cap e d c t (W.setCell ⟨c, 0, none⟩ (.int .u64 (t : Int))) := ⟨h.sw.setNew c 0 h.cl _, h.cl, h.cb.set 0 (.int .u64 (t : Int)), ht⟩
end Go.Proofs.YtegoddghfjfibaaGreatDoor

namespace Go.Proofs.YtegoddghfjfibaaGreatDoor
set_option linter.unusedVariables false
set_option linter.unusedSimpArgs false
open Go.Joins Go.ChangeShapes Go.WideShapes Go.ChangeAt Go.RowKit Go.Deep

end Go.Proofs.YtegoddghfjfibaaGreatDoor


