/- hash.Make: its table as it begins. -/
import Derived.Test.YthammjpadbbflaaHasF
import Derived.LoopTactic
import Derived.Deep.Cut
import Derived.Deep.DeepCutAuto
import Derived.OpenShut
import Derived.IntWalk
import Derived.Deep.RegionLaw
import Derived.BigRegion
import Derived.Laws.OwnMore
namespace Go.Proofs.Ythammjpadbbflaa
set_option linter.unusedVariables false
set_option linter.unusedSimpArgs false
open Go.Joins Go.ChangeShapes Go.WideShapes Go.ChangeAt Go.RowKit
/-- a block of numbers that may be written -/
def Nums (W : World) (P : Nat) (xs : List Value) : Prop := (∀ j, W.frozen? ⟨P, j, none⟩ = false) ∧ ∀ j v, xs[j]? = some v → W.cell? ⟨P, j, none⟩ = some v
theorem frozen_new (W : World) (cs : Array Value) (e : TypeId) (P j : Nat) (hP : P = W.heap.size) : (W.alloc (.cells cs e)).frozen? ⟨P, j, none⟩ = false := by
  subst hP
  have : (W.alloc (.cells cs e)).heap[W.heap.size]? = some (.cells cs e) := heap_alloc_new W _
  unfold World.frozen?
  rw [this]
  simp
theorem frozen_alloc {W : World} {P j : Nat} (h : W.frozen? ⟨P, j, none⟩ = false) (hP : P < W.heap.size) (o : Obj) : (W.alloc o).frozen? ⟨P, j, none⟩ = false := by
  rw [(bAlloc (Below.refl W.heap.size W) o).frozen (p := ⟨P, j, none⟩) hP]; exact h
theorem cell_new (W : World) (cs : Array Value) (e : TypeId) (P j : Nat) (v : Value) (hP : P = W.heap.size) (hv : cs[j]? = some v) : (W.alloc (.cells cs e)).cell? ⟨P, j, none⟩ = some v := by
  subst hP
  rw [boxed (Below.refl _ _) j]; exact hv
theorem cell_alloc {W : World} {P j : Nat} {v : Value} (h : W.cell? ⟨P, j, none⟩ = some v) (o : Obj) : (W.alloc o).cell? ⟨P, j, none⟩ = some v := by
  rw [(bAlloc (Below.refl W.heap.size W) o).cell (p := ⟨P, j, none⟩) (heap_lt_of_cell h)]; exact h
theorem Nums.made (W : World) (n : Nat) (e : TypeId) (P : Nat) (hP : P = W.heap.size) : Nums (W.alloc (.cells (madeCells #[.int .i64 0] n) e)) P (List.replicate n (.int .i64 0)) := by
  refine ⟨fun j => frozen_new _ _ _ _ _ hP, fun j v hj => cell_new _ _ _ _ _ _ hP ?_⟩
  rw [← Array.getElem?_toList, toList_madeCells_one]
  exact hj
theorem Nums.alloc {W : World} {P : Nat} {xs : List Value} (h : Nums W P xs) (hP : P < W.heap.size) (o : Obj) : Nums (W.alloc o) P xs :=
  ⟨fun j => frozen_alloc (h.1 j) hP o, fun j v hj => cell_alloc (h.2 j v hj) o⟩
theorem Nums.drew {W : World} {P : Nat} {xs : List Value} (h : Nums W P xs) : Nums W.drew P xs := h
theorem lt_drew {n : Nat} {W : World} (h : n < W.heap.size) : n < W.drew.heap.size := h
theorem cell_drew {W : World} {p : Addr} {v : Value} (h : W.cell? p = some v) : W.drew.cell? p = some v := h
theorem frozen_drew {W : World} {p : Addr} (h : W.frozen? p = false) : W.drew.frozen? p = false := h
theorem Nums.set {W : World} {P : Nat} {xs : List Value} (h : Nums W P xs) (j : Nat) (v : Value) : Nums (W.setCell ⟨P, j, none⟩ v) P (xs.set j v) := by
  refine ⟨fun i => by rw [World.frozen?_setCell]; exact h.1 i, fun i u hu => ?_⟩
  rw [List.getElem?_set] at hu
  by_cases e : j = i
  · subst e
    rw [if_pos rfl] at hu
    split at hu
    · rename_i hj
      obtain rfl := Option.some.inj hu
      exact World.cell?_setCell_same _ _ _ (h.2 j xs[j] (List.getElem?_eq_getElem hj))
    · cases hu
  · rw [if_neg e] at hu
    rw [World.cell?_setCell_other _ _ _ _ (by simp [e])]
    exact h.2 i u hu
theorem Nums.far {W : World} {P : Nat} {xs : List Value} (h : Nums W P xs) {p : Addr} (hp : p.block ≠ P) (v : Value) : Nums (W.setCell p v) P xs :=
  ⟨fun i => by rw [World.frozen?_setCell]; exact h.1 i, fun i u hu => by rw [World.cell?_setCell_other _ _ _ _ (by intro e; subst e; exact hp rfl)]; exact h.2 i u hu⟩
theorem Nums.below {W W' : World} {P : Nat} {xs : List Value} (h : Nums W P xs) (hP : P < W.heap.size) (hb : Below W.heap.size W W') : Nums W' P xs :=
  ⟨fun i => (hb.frozen (p := ⟨P, i, none⟩) hP).trans (h.1 i), fun i u hu => (hb.cell (p := ⟨P, i, none⟩) hP).trans (h.2 i u hu)⟩
theorem Nums.rd {W : World} {P : Nat} {xs : List Value} (h : Nums W P xs) (n : Nat) (hn : xs.length = n) : Rd W (some ⟨P, 0, none⟩) n xs :=
  ⟨hn, fun h0 => by
    have hx : ∀ k (hk : k < n), W.cell? ⟨P, 0 + k, none⟩ = some (xs[k]'(by omega)) := fun k hk => by rw [Nat.zero_add]; exact h.2 k _ (List.getElem?_eq_getElem (by omega))
    exact ⟨P, 0, rfl, heap_lt_of_cell (hx 0 h0), fun k hk => (hx k hk).trans (List.getElem?_eq_getElem (by omega)).symm⟩⟩
/-- where a walk of Make stands: its table, the buckets, the chains, all symbols from place i on laid -/
def Stands (w W : World) (T B C : Nat) (l : List Sym) (n i : Nat) : Prop :=
  (W.cell? ⟨T, 0, none⟩ = some (.slice (some ⟨B, 0, none⟩) n n) ∧ W.cell? ⟨T, 1, none⟩ = some (.slice (some ⟨C, 0, none⟩) l.length l.length)) ∧ Nums W B (bucketsL l n i) ∧ Nums W C (chainL l n i) ∧
  (W.cell? ⟨w.heap.size, 0, none⟩ = some (.slice none 0 0) ∧ W.cell? ⟨w.heap.size, 1, none⟩ = some (.slice none 0 0) ∧ ∀ j, W.frozen? ⟨w.heap.size, j, none⟩ = false) ∧
  (w.heap.size < B ∧ w.heap.size < C ∧ w.heap.size < T ∧ B ≠ C ∧ B ≠ T ∧ C ≠ T) ∧ (B < W.heap.size ∧ C < W.heap.size ∧ T < W.heap.size) ∧ Below w.heap.size w W
/-- what Make leaves: the buckets' and the chains' numbers, in blocks of its own -/
def MakePost (w : World) (l : List Sym) (n : Nat) (e : Ending) (w' : World) : Prop :=
  ∃ B C : Nat, e = .returned (.tuple #[.agg #[.slice (some ⟨B, 0, none⟩) n n, .slice (some ⟨C, 0, none⟩) l.length l.length], .int .i64 0]) ∧ Rd w' (some ⟨B, 0, none⟩) n (i64s (bucketsZ l n n)) ∧ Rd w' (some ⟨C, 0, none⟩) l.length (i64s (chainZ l n l.length)) ∧ B < w'.heap.size ∧ C < w'.heap.size ∧ (w.heap.size ≤ B ∧ w.heap.size ≤ C) ∧ Below w.heap.size w w'
theorem shown_sym (s : Sym) (w : World) : Calls Try.prog 34 #[.agg #[.string ⟨s.name.toArray⟩, .string ⟨s.ver.toArray⟩, .int .u64 s.place, .int .u64 s.size, .int .i64 s.kind, .int .i64 s.bind, .int .i64 s.seen, .bool s.defd]] w fun e w' => e = .returned (.bool (shownB s)) ∧ Below w.heap.size w w' := shown_any _ _ _ _ _ _ _ _ w
theorem Stands.chain {w W : World} {T B C : Nat} {l : List Sym} {n i m : Nat} (h : Stands w W T B C l n i) (hm : l.length = m) : W.cell? ⟨T, 1, none⟩ = some (.slice (some ⟨C, 0, none⟩) m m) := by subst hm; exact h.1.2
theorem Stands.laid {w W : World} {T B C : Nat} {l : List Sym} {n j q : Nat} {nx : Int} (h : Stands w W T B C l n (j + 1)) (h1 : bucketsL l n j = (bucketsL l n (j + 1)).set q (.int .i64 ((j + 1 : Nat) : Int))) (h2 : chainL l n j = (chainL l n (j + 1)).set j (.int .i64 ((nextN l n q (j + 1) : Nat) : Int))) (hx : ((nextN l n q (j + 1) : Nat) : Int) = nx) :
    Stands w ((W.setCell ⟨C, j, none⟩ (.int .i64 nx)).setCell ⟨B, q, none⟩ (.int .i64 ((j : Int) + 1))).drew T B C l n j := by
  subst hx
  obtain ⟨⟨t0, t1⟩, hB, hC, ⟨r0, r1, rf⟩, ⟨n1, n2, n3, n4, n5, n6⟩, ⟨lb, lc, lt⟩, hbel⟩ := h
  have hx : ∀ (p : Addr) (v : Value), W.cell? p = some v → p.block ≠ B → p.block ≠ C → ∀ v1 v2, ((W.setCell ⟨C, j, none⟩ v1).setCell ⟨B, q, none⟩ v2).cell? p = some v := fun p v hv pb pc v1 v2 =>
    (World.cell?_setCell_other _ _ _ _ (fun e => pb (by rw [← e]))).trans ((World.cell?_setCell_other _ _ _ _ (fun e => pc (by rw [← e]))).trans hv)
  refine ⟨⟨hx _ _ t0 (by simp; omega) (by simp; omega) _ _, hx _ _ t1 (by simp; omega) (by simp; omega) _ _⟩, ?_, ?_, ⟨hx _ _ r0 (by simp; omega) (by simp; omega) _ _, hx _ _ r1 (by simp; omega) (by simp; omega) _ _, fun i => ?_⟩, ⟨n1, n2, n3, n4, n5, n6⟩, ?_, ?_⟩
  · rw [h1, show (((j + 1 : Nat) : Int)) = (j : Int) + 1 by omega]
    exact Nums.drew ((hB.far (p := ⟨C, j, none⟩) (by simp; omega) _).set q _)
  · rw [h2]
    exact Nums.drew ((hC.set j _).far (p := ⟨B, q, none⟩) (by simp; omega) _)
  · exact frozen_drew (by rw [World.frozen?_setCell, World.frozen?_setCell]; exact rf i)
  · exact ⟨by simpa using lb, by simpa using lc, by simpa using lt⟩
  · exact Below.drew ((hbel.setCell (p := ⟨C, j, none⟩) (Nat.le_of_lt n2) _).setCell (p := ⟨B, q, none⟩) (Nat.le_of_lt n1) _)
theorem Stands.below {w W W' : World} {T B C : Nat} {l : List Sym} {n i : Nat} (h : Stands w W T B C l n i) (hb : Below W.heap.size W W') : Stands w W' T B C l n i := by
  obtain ⟨⟨t0, t1⟩, hB, hC, ⟨r0, r1, rf⟩, hne, ⟨lb, lc, lt⟩, hbel⟩ := h
  have hr := heap_lt_of_cell r0
  exact ⟨⟨(hb.cell (p := ⟨T, 0, none⟩) lt).trans t0, (hb.cell (p := ⟨T, 1, none⟩) lt).trans t1⟩, hB.below lb hb, hC.below lc hb,
    ⟨(hb.cell (p := ⟨w.heap.size, 0, none⟩) hr).trans r0, (hb.cell (p := ⟨w.heap.size, 1, none⟩) hr).trans r1, fun j => (hb.frozen (p := ⟨w.heap.size, j, none⟩) hr).trans (rf j)⟩, hne,
    ⟨Nat.lt_of_lt_of_le lb hb.size, Nat.lt_of_lt_of_le lc hb.size, Nat.lt_of_lt_of_le lt hb.size⟩, hbel.trans (hb.mono (Nat.le_of_lt hr))⟩
set_option maxHeartbeats 1000000 in
theorem make_any (a : Option Addr) (l : List Sym) (c n : Nat) (h1 : 1 ≤ n) (h2 : n ≤ 64) (h3 : l.length ≤ 40) (w : World) (hl : RdS w a l) (hnm : ∀ s ∈ l, s.name.length < 9223372036854775808) :
    Calls Try.prog 65 #[.slice a l.length c, .int .i64 (n : Int)] w (MakePost w l n) := by
  have d1 : decide ((n : Int) < 1) = false := decide_eq_false (by omega)
  have d2 : decide (64 < (n : Int)) = false := decide_eq_false (by omega)
  have d3 : decide (40 < (l.length : Int)) = false := decide_eq_false (by omega)
  have hb := bucketsL_start l n
  have hc := chainL_start l n
  obtain ⟨m, hm⟩ : ∃ m, l.length = m := ⟨_, rfl⟩
  have hk1 := run_make_row' (P := Try.prog) 23 3 (.int .i64 0) 8 Try.underlying23 (by kernel_rfl) rfl .i64 .i64 n (by omega) (by omega)
  have hk2 := run_make_row' (P := Try.prog) 23 3 (.int .i64 0) 8 Try.underlying23 (by kernel_rfl) rfl .i64 .i64 m (by omega) (by omega)
  rw [hm] at d3 ⊢
  have HM := Lib.hid hm
  have hm40 : m ≤ 40 := by omega
  have HL := Lib.hid hl
  have HNM := Lib.hid hnm
  have HB := Lib.hid hb
  have HC := Lib.hid hc
  clear hm hb hc h3 hl hnm
  go_enter Try.func65, Try.ntmps65
  go_upto_region 3 with fail
  go_cut [6] (fun s6 wx => ∃ T B C : Nat, s6 = .pointer (some ⟨T, 0, none⟩) ∧ Hid (Stands w wx T B C l n l.length))
  case first =>
    go_region_held3 (fun _ => True) (trivial) (fail)
    all_goals (go_wp2_with fail)
    all_goals go_meet
    all_goals first
      | (refine ⟨_, w.heap.size + 1, w.heap.size + 1 + 1, rfl, Lib.hid ⟨⟨?_, ?_⟩, ?_, ?_, ⟨?_, ?_, fun j => ?_⟩, ⟨?_, ?_, ?_, ?_, ?_, ?_⟩, ⟨?_, ?_, ?_⟩, Below.drew (bAlloc (bAlloc (bAlloc (bAlloc (Below.refl _ _) _) _) _) _)⟩⟩
         (first
            | (focus (refine cell_drew (cell_new _ _ _ _ _ _ ?_ rfl); simp only [size_alloc]; done))
            | (focus (refine cell_drew (cell_alloc (cell_new _ _ _ _ _ _ ?_ rfl) _); simp only [size_alloc]; done))
            | (focus (refine cell_drew (cell_alloc (cell_alloc (cell_new _ _ _ _ _ _ ?_ rfl) _) _); simp only [size_alloc]; done))
            | (focus (refine cell_drew (cell_alloc (cell_alloc (cell_alloc (cell_new _ _ _ _ _ _ ?_ rfl) _) _) _); simp only [size_alloc]; done)))
         rw [HM.out]
         (first
            | (focus (refine cell_drew (cell_new _ _ _ _ _ _ ?_ rfl); simp only [size_alloc]; done))
            | (focus (refine cell_drew (cell_alloc (cell_new _ _ _ _ _ _ ?_ rfl) _); simp only [size_alloc]; done))
            | (focus (refine cell_drew (cell_alloc (cell_alloc (cell_new _ _ _ _ _ _ ?_ rfl) _) _); simp only [size_alloc]; done))
            | (focus (refine cell_drew (cell_alloc (cell_alloc (cell_alloc (cell_new _ _ _ _ _ _ ?_ rfl) _) _) _); simp only [size_alloc]; done)))
         rw [HB.out]
         (first
            | (focus ((refine Nums.drew (Nums.made _ _ _ _ ?_) <;> (simp only [size_alloc]; try omega)); done))
            | (focus ((refine Nums.drew (Nums.alloc (Nums.made _ _ _ _ ?_) ?_ _) <;> (simp only [size_alloc]; try omega)); done))
            | (focus ((refine Nums.drew (Nums.alloc (Nums.alloc (Nums.made _ _ _ _ ?_) ?_ _) ?_ _) <;> (simp only [size_alloc]; try omega)); done)))
         rw [HC.out, HM.out]
         (first
            | (focus ((refine Nums.drew (Nums.made _ _ _ _ ?_) <;> (simp only [size_alloc]; try omega)); done))
            | (focus ((refine Nums.drew (Nums.alloc (Nums.made _ _ _ _ ?_) ?_ _) <;> (simp only [size_alloc]; try omega)); done))
            | (focus ((refine Nums.drew (Nums.alloc (Nums.alloc (Nums.made _ _ _ _ ?_) ?_ _) ?_ _) <;> (simp only [size_alloc]; try omega)); done)))
         (first
            | (focus (refine cell_drew (cell_new _ _ _ _ _ _ ?_ rfl); simp only [size_alloc]; done))
            | (focus (refine cell_drew (cell_alloc (cell_new _ _ _ _ _ _ ?_ rfl) _); simp only [size_alloc]; done))
            | (focus (refine cell_drew (cell_alloc (cell_alloc (cell_new _ _ _ _ _ _ ?_ rfl) _) _); simp only [size_alloc]; done))
            | (focus (refine cell_drew (cell_alloc (cell_alloc (cell_alloc (cell_new _ _ _ _ _ _ ?_ rfl) _) _) _); simp only [size_alloc]; done)))
         (first
            | (focus (refine cell_drew (cell_new _ _ _ _ _ _ ?_ rfl); simp only [size_alloc]; done))
            | (focus (refine cell_drew (cell_alloc (cell_new _ _ _ _ _ _ ?_ rfl) _); simp only [size_alloc]; done))
            | (focus (refine cell_drew (cell_alloc (cell_alloc (cell_new _ _ _ _ _ _ ?_ rfl) _) _); simp only [size_alloc]; done))
            | (focus (refine cell_drew (cell_alloc (cell_alloc (cell_alloc (cell_new _ _ _ _ _ _ ?_ rfl) _) _) _); simp only [size_alloc]; done)))
         (focus (refine frozen_drew (frozen_alloc (frozen_alloc (frozen_alloc (frozen_new _ _ _ _ _ ?_) ?_ _) ?_ _) ?_ _) <;> (simp only [size_alloc]; try omega)))
         all_goals first | omega | (refine lt_drew ?_; simp only [size_alloc]; omega))
      | (refine ⟨_, w.heap.size + 1, w.heap.size + 1 + 1 + 1, rfl, Lib.hid ⟨⟨?_, ?_⟩, ?_, ?_, ⟨?_, ?_, fun j => ?_⟩, ⟨?_, ?_, ?_, ?_, ?_, ?_⟩, ⟨?_, ?_, ?_⟩, Below.drew (bAlloc (bAlloc (bAlloc (bAlloc (Below.refl _ _) _) _) _) _)⟩⟩
         (first
            | (focus (refine cell_drew (cell_new _ _ _ _ _ _ ?_ rfl); simp only [size_alloc]; done))
            | (focus (refine cell_drew (cell_alloc (cell_new _ _ _ _ _ _ ?_ rfl) _); simp only [size_alloc]; done))
            | (focus (refine cell_drew (cell_alloc (cell_alloc (cell_new _ _ _ _ _ _ ?_ rfl) _) _); simp only [size_alloc]; done))
            | (focus (refine cell_drew (cell_alloc (cell_alloc (cell_alloc (cell_new _ _ _ _ _ _ ?_ rfl) _) _) _); simp only [size_alloc]; done)))
         rw [HM.out]
         (first
            | (focus (refine cell_drew (cell_new _ _ _ _ _ _ ?_ rfl); simp only [size_alloc]; done))
            | (focus (refine cell_drew (cell_alloc (cell_new _ _ _ _ _ _ ?_ rfl) _); simp only [size_alloc]; done))
            | (focus (refine cell_drew (cell_alloc (cell_alloc (cell_new _ _ _ _ _ _ ?_ rfl) _) _); simp only [size_alloc]; done))
            | (focus (refine cell_drew (cell_alloc (cell_alloc (cell_alloc (cell_new _ _ _ _ _ _ ?_ rfl) _) _) _); simp only [size_alloc]; done)))
         rw [HB.out]
         (first
            | (focus ((refine Nums.drew (Nums.made _ _ _ _ ?_) <;> (simp only [size_alloc]; try omega)); done))
            | (focus ((refine Nums.drew (Nums.alloc (Nums.made _ _ _ _ ?_) ?_ _) <;> (simp only [size_alloc]; try omega)); done))
            | (focus ((refine Nums.drew (Nums.alloc (Nums.alloc (Nums.made _ _ _ _ ?_) ?_ _) ?_ _) <;> (simp only [size_alloc]; try omega)); done)))
         rw [HC.out, HM.out]
         (first
            | (focus ((refine Nums.drew (Nums.made _ _ _ _ ?_) <;> (simp only [size_alloc]; try omega)); done))
            | (focus ((refine Nums.drew (Nums.alloc (Nums.made _ _ _ _ ?_) ?_ _) <;> (simp only [size_alloc]; try omega)); done))
            | (focus ((refine Nums.drew (Nums.alloc (Nums.alloc (Nums.made _ _ _ _ ?_) ?_ _) ?_ _) <;> (simp only [size_alloc]; try omega)); done)))
         (first
            | (focus (refine cell_drew (cell_new _ _ _ _ _ _ ?_ rfl); simp only [size_alloc]; done))
            | (focus (refine cell_drew (cell_alloc (cell_new _ _ _ _ _ _ ?_ rfl) _); simp only [size_alloc]; done))
            | (focus (refine cell_drew (cell_alloc (cell_alloc (cell_new _ _ _ _ _ _ ?_ rfl) _) _); simp only [size_alloc]; done))
            | (focus (refine cell_drew (cell_alloc (cell_alloc (cell_alloc (cell_new _ _ _ _ _ _ ?_ rfl) _) _) _); simp only [size_alloc]; done)))
         (first
            | (focus (refine cell_drew (cell_new _ _ _ _ _ _ ?_ rfl); simp only [size_alloc]; done))
            | (focus (refine cell_drew (cell_alloc (cell_new _ _ _ _ _ _ ?_ rfl) _); simp only [size_alloc]; done))
            | (focus (refine cell_drew (cell_alloc (cell_alloc (cell_new _ _ _ _ _ _ ?_ rfl) _) _); simp only [size_alloc]; done))
            | (focus (refine cell_drew (cell_alloc (cell_alloc (cell_alloc (cell_new _ _ _ _ _ _ ?_ rfl) _) _) _); simp only [size_alloc]; done)))
         (focus (refine frozen_drew (frozen_alloc (frozen_alloc (frozen_alloc (frozen_new _ _ _ _ _ ?_) ?_ _) ?_ _) ?_ _) <;> (simp only [size_alloc]; try omega)))
         all_goals first | omega | (refine lt_drew ?_; simp only [size_alloc]; omega))
      | (refine ⟨_, w.heap.size + 1 + 1, w.heap.size + 1, rfl, Lib.hid ⟨⟨?_, ?_⟩, ?_, ?_, ⟨?_, ?_, fun j => ?_⟩, ⟨?_, ?_, ?_, ?_, ?_, ?_⟩, ⟨?_, ?_, ?_⟩, Below.drew (bAlloc (bAlloc (bAlloc (bAlloc (Below.refl _ _) _) _) _) _)⟩⟩
         (first
            | (focus (refine cell_drew (cell_new _ _ _ _ _ _ ?_ rfl); simp only [size_alloc]; done))
            | (focus (refine cell_drew (cell_alloc (cell_new _ _ _ _ _ _ ?_ rfl) _); simp only [size_alloc]; done))
            | (focus (refine cell_drew (cell_alloc (cell_alloc (cell_new _ _ _ _ _ _ ?_ rfl) _) _); simp only [size_alloc]; done))
            | (focus (refine cell_drew (cell_alloc (cell_alloc (cell_alloc (cell_new _ _ _ _ _ _ ?_ rfl) _) _) _); simp only [size_alloc]; done)))
         rw [HM.out]
         (first
            | (focus (refine cell_drew (cell_new _ _ _ _ _ _ ?_ rfl); simp only [size_alloc]; done))
            | (focus (refine cell_drew (cell_alloc (cell_new _ _ _ _ _ _ ?_ rfl) _); simp only [size_alloc]; done))
            | (focus (refine cell_drew (cell_alloc (cell_alloc (cell_new _ _ _ _ _ _ ?_ rfl) _) _); simp only [size_alloc]; done))
            | (focus (refine cell_drew (cell_alloc (cell_alloc (cell_alloc (cell_new _ _ _ _ _ _ ?_ rfl) _) _) _); simp only [size_alloc]; done)))
         rw [HB.out]
         (first
            | (focus ((refine Nums.drew (Nums.made _ _ _ _ ?_) <;> (simp only [size_alloc]; try omega)); done))
            | (focus ((refine Nums.drew (Nums.alloc (Nums.made _ _ _ _ ?_) ?_ _) <;> (simp only [size_alloc]; try omega)); done))
            | (focus ((refine Nums.drew (Nums.alloc (Nums.alloc (Nums.made _ _ _ _ ?_) ?_ _) ?_ _) <;> (simp only [size_alloc]; try omega)); done)))
         rw [HC.out, HM.out]
         (first
            | (focus ((refine Nums.drew (Nums.made _ _ _ _ ?_) <;> (simp only [size_alloc]; try omega)); done))
            | (focus ((refine Nums.drew (Nums.alloc (Nums.made _ _ _ _ ?_) ?_ _) <;> (simp only [size_alloc]; try omega)); done))
            | (focus ((refine Nums.drew (Nums.alloc (Nums.alloc (Nums.made _ _ _ _ ?_) ?_ _) ?_ _) <;> (simp only [size_alloc]; try omega)); done)))
         (first
            | (focus (refine cell_drew (cell_new _ _ _ _ _ _ ?_ rfl); simp only [size_alloc]; done))
            | (focus (refine cell_drew (cell_alloc (cell_new _ _ _ _ _ _ ?_ rfl) _); simp only [size_alloc]; done))
            | (focus (refine cell_drew (cell_alloc (cell_alloc (cell_new _ _ _ _ _ _ ?_ rfl) _) _); simp only [size_alloc]; done))
            | (focus (refine cell_drew (cell_alloc (cell_alloc (cell_alloc (cell_new _ _ _ _ _ _ ?_ rfl) _) _) _); simp only [size_alloc]; done)))
         (first
            | (focus (refine cell_drew (cell_new _ _ _ _ _ _ ?_ rfl); simp only [size_alloc]; done))
            | (focus (refine cell_drew (cell_alloc (cell_new _ _ _ _ _ _ ?_ rfl) _); simp only [size_alloc]; done))
            | (focus (refine cell_drew (cell_alloc (cell_alloc (cell_new _ _ _ _ _ _ ?_ rfl) _) _); simp only [size_alloc]; done))
            | (focus (refine cell_drew (cell_alloc (cell_alloc (cell_alloc (cell_new _ _ _ _ _ _ ?_ rfl) _) _) _); simp only [size_alloc]; done)))
         (focus (refine frozen_drew (frozen_alloc (frozen_alloc (frozen_alloc (frozen_new _ _ _ _ _ ?_) ?_ _) ?_ _) ?_ _) <;> (simp only [size_alloc]; try omega)))
         all_goals first | omega | (refine lt_drew ?_; simp only [size_alloc]; omega))
      | (refine ⟨_, w.heap.size + 1 + 1, w.heap.size + 1 + 1 + 1, rfl, Lib.hid ⟨⟨?_, ?_⟩, ?_, ?_, ⟨?_, ?_, fun j => ?_⟩, ⟨?_, ?_, ?_, ?_, ?_, ?_⟩, ⟨?_, ?_, ?_⟩, Below.drew (bAlloc (bAlloc (bAlloc (bAlloc (Below.refl _ _) _) _) _) _)⟩⟩
         (first
            | (focus (refine cell_drew (cell_new _ _ _ _ _ _ ?_ rfl); simp only [size_alloc]; done))
            | (focus (refine cell_drew (cell_alloc (cell_new _ _ _ _ _ _ ?_ rfl) _); simp only [size_alloc]; done))
            | (focus (refine cell_drew (cell_alloc (cell_alloc (cell_new _ _ _ _ _ _ ?_ rfl) _) _); simp only [size_alloc]; done))
            | (focus (refine cell_drew (cell_alloc (cell_alloc (cell_alloc (cell_new _ _ _ _ _ _ ?_ rfl) _) _) _); simp only [size_alloc]; done)))
         rw [HM.out]
         (first
            | (focus (refine cell_drew (cell_new _ _ _ _ _ _ ?_ rfl); simp only [size_alloc]; done))
            | (focus (refine cell_drew (cell_alloc (cell_new _ _ _ _ _ _ ?_ rfl) _); simp only [size_alloc]; done))
            | (focus (refine cell_drew (cell_alloc (cell_alloc (cell_new _ _ _ _ _ _ ?_ rfl) _) _); simp only [size_alloc]; done))
            | (focus (refine cell_drew (cell_alloc (cell_alloc (cell_alloc (cell_new _ _ _ _ _ _ ?_ rfl) _) _) _); simp only [size_alloc]; done)))
         rw [HB.out]
         (first
            | (focus ((refine Nums.drew (Nums.made _ _ _ _ ?_) <;> (simp only [size_alloc]; try omega)); done))
            | (focus ((refine Nums.drew (Nums.alloc (Nums.made _ _ _ _ ?_) ?_ _) <;> (simp only [size_alloc]; try omega)); done))
            | (focus ((refine Nums.drew (Nums.alloc (Nums.alloc (Nums.made _ _ _ _ ?_) ?_ _) ?_ _) <;> (simp only [size_alloc]; try omega)); done)))
         rw [HC.out, HM.out]
         (first
            | (focus ((refine Nums.drew (Nums.made _ _ _ _ ?_) <;> (simp only [size_alloc]; try omega)); done))
            | (focus ((refine Nums.drew (Nums.alloc (Nums.made _ _ _ _ ?_) ?_ _) <;> (simp only [size_alloc]; try omega)); done))
            | (focus ((refine Nums.drew (Nums.alloc (Nums.alloc (Nums.made _ _ _ _ ?_) ?_ _) ?_ _) <;> (simp only [size_alloc]; try omega)); done)))
         (first
            | (focus (refine cell_drew (cell_new _ _ _ _ _ _ ?_ rfl); simp only [size_alloc]; done))
            | (focus (refine cell_drew (cell_alloc (cell_new _ _ _ _ _ _ ?_ rfl) _); simp only [size_alloc]; done))
            | (focus (refine cell_drew (cell_alloc (cell_alloc (cell_new _ _ _ _ _ _ ?_ rfl) _) _); simp only [size_alloc]; done))
            | (focus (refine cell_drew (cell_alloc (cell_alloc (cell_alloc (cell_new _ _ _ _ _ _ ?_ rfl) _) _) _); simp only [size_alloc]; done)))
         (first
            | (focus (refine cell_drew (cell_new _ _ _ _ _ _ ?_ rfl); simp only [size_alloc]; done))
            | (focus (refine cell_drew (cell_alloc (cell_new _ _ _ _ _ _ ?_ rfl) _); simp only [size_alloc]; done))
            | (focus (refine cell_drew (cell_alloc (cell_alloc (cell_new _ _ _ _ _ _ ?_ rfl) _) _); simp only [size_alloc]; done))
            | (focus (refine cell_drew (cell_alloc (cell_alloc (cell_alloc (cell_new _ _ _ _ _ _ ?_ rfl) _) _) _); simp only [size_alloc]; done)))
         (focus (refine frozen_drew (frozen_alloc (frozen_alloc (frozen_alloc (frozen_new _ _ _ _ _ ?_) ?_ _) ?_ _) ?_ _) <;> (simp only [size_alloc]; try omega)))
         all_goals first | omega | (refine lt_drew ?_; simp only [size_alloc]; omega))
      | (refine ⟨_, w.heap.size + 1 + 1 + 1, w.heap.size + 1, rfl, Lib.hid ⟨⟨?_, ?_⟩, ?_, ?_, ⟨?_, ?_, fun j => ?_⟩, ⟨?_, ?_, ?_, ?_, ?_, ?_⟩, ⟨?_, ?_, ?_⟩, Below.drew (bAlloc (bAlloc (bAlloc (bAlloc (Below.refl _ _) _) _) _) _)⟩⟩
         (first
            | (focus (refine cell_drew (cell_new _ _ _ _ _ _ ?_ rfl); simp only [size_alloc]; done))
            | (focus (refine cell_drew (cell_alloc (cell_new _ _ _ _ _ _ ?_ rfl) _); simp only [size_alloc]; done))
            | (focus (refine cell_drew (cell_alloc (cell_alloc (cell_new _ _ _ _ _ _ ?_ rfl) _) _); simp only [size_alloc]; done))
            | (focus (refine cell_drew (cell_alloc (cell_alloc (cell_alloc (cell_new _ _ _ _ _ _ ?_ rfl) _) _) _); simp only [size_alloc]; done)))
         rw [HM.out]
         (first
            | (focus (refine cell_drew (cell_new _ _ _ _ _ _ ?_ rfl); simp only [size_alloc]; done))
            | (focus (refine cell_drew (cell_alloc (cell_new _ _ _ _ _ _ ?_ rfl) _); simp only [size_alloc]; done))
            | (focus (refine cell_drew (cell_alloc (cell_alloc (cell_new _ _ _ _ _ _ ?_ rfl) _) _); simp only [size_alloc]; done))
            | (focus (refine cell_drew (cell_alloc (cell_alloc (cell_alloc (cell_new _ _ _ _ _ _ ?_ rfl) _) _) _); simp only [size_alloc]; done)))
         rw [HB.out]
         (first
            | (focus ((refine Nums.drew (Nums.made _ _ _ _ ?_) <;> (simp only [size_alloc]; try omega)); done))
            | (focus ((refine Nums.drew (Nums.alloc (Nums.made _ _ _ _ ?_) ?_ _) <;> (simp only [size_alloc]; try omega)); done))
            | (focus ((refine Nums.drew (Nums.alloc (Nums.alloc (Nums.made _ _ _ _ ?_) ?_ _) ?_ _) <;> (simp only [size_alloc]; try omega)); done)))
         rw [HC.out, HM.out]
         (first
            | (focus ((refine Nums.drew (Nums.made _ _ _ _ ?_) <;> (simp only [size_alloc]; try omega)); done))
            | (focus ((refine Nums.drew (Nums.alloc (Nums.made _ _ _ _ ?_) ?_ _) <;> (simp only [size_alloc]; try omega)); done))
            | (focus ((refine Nums.drew (Nums.alloc (Nums.alloc (Nums.made _ _ _ _ ?_) ?_ _) ?_ _) <;> (simp only [size_alloc]; try omega)); done)))
         (first
            | (focus (refine cell_drew (cell_new _ _ _ _ _ _ ?_ rfl); simp only [size_alloc]; done))
            | (focus (refine cell_drew (cell_alloc (cell_new _ _ _ _ _ _ ?_ rfl) _); simp only [size_alloc]; done))
            | (focus (refine cell_drew (cell_alloc (cell_alloc (cell_new _ _ _ _ _ _ ?_ rfl) _) _); simp only [size_alloc]; done))
            | (focus (refine cell_drew (cell_alloc (cell_alloc (cell_alloc (cell_new _ _ _ _ _ _ ?_ rfl) _) _) _); simp only [size_alloc]; done)))
         (first
            | (focus (refine cell_drew (cell_new _ _ _ _ _ _ ?_ rfl); simp only [size_alloc]; done))
            | (focus (refine cell_drew (cell_alloc (cell_new _ _ _ _ _ _ ?_ rfl) _); simp only [size_alloc]; done))
            | (focus (refine cell_drew (cell_alloc (cell_alloc (cell_new _ _ _ _ _ _ ?_ rfl) _) _); simp only [size_alloc]; done))
            | (focus (refine cell_drew (cell_alloc (cell_alloc (cell_alloc (cell_new _ _ _ _ _ _ ?_ rfl) _) _) _); simp only [size_alloc]; done)))
         (focus (refine frozen_drew (frozen_alloc (frozen_alloc (frozen_alloc (frozen_new _ _ _ _ _ ?_) ?_ _) ?_ _) ?_ _) <;> (simp only [size_alloc]; try omega)))
         all_goals first | omega | (refine lt_drew ?_; simp only [size_alloc]; omega))
      | (refine ⟨_, w.heap.size + 1 + 1 + 1, w.heap.size + 1 + 1, rfl, Lib.hid ⟨⟨?_, ?_⟩, ?_, ?_, ⟨?_, ?_, fun j => ?_⟩, ⟨?_, ?_, ?_, ?_, ?_, ?_⟩, ⟨?_, ?_, ?_⟩, Below.drew (bAlloc (bAlloc (bAlloc (bAlloc (Below.refl _ _) _) _) _) _)⟩⟩
         (first
            | (focus (refine cell_drew (cell_new _ _ _ _ _ _ ?_ rfl); simp only [size_alloc]; done))
            | (focus (refine cell_drew (cell_alloc (cell_new _ _ _ _ _ _ ?_ rfl) _); simp only [size_alloc]; done))
            | (focus (refine cell_drew (cell_alloc (cell_alloc (cell_new _ _ _ _ _ _ ?_ rfl) _) _); simp only [size_alloc]; done))
            | (focus (refine cell_drew (cell_alloc (cell_alloc (cell_alloc (cell_new _ _ _ _ _ _ ?_ rfl) _) _) _); simp only [size_alloc]; done)))
         rw [HM.out]
         (first
            | (focus (refine cell_drew (cell_new _ _ _ _ _ _ ?_ rfl); simp only [size_alloc]; done))
            | (focus (refine cell_drew (cell_alloc (cell_new _ _ _ _ _ _ ?_ rfl) _); simp only [size_alloc]; done))
            | (focus (refine cell_drew (cell_alloc (cell_alloc (cell_new _ _ _ _ _ _ ?_ rfl) _) _); simp only [size_alloc]; done))
            | (focus (refine cell_drew (cell_alloc (cell_alloc (cell_alloc (cell_new _ _ _ _ _ _ ?_ rfl) _) _) _); simp only [size_alloc]; done)))
         rw [HB.out]
         (first
            | (focus ((refine Nums.drew (Nums.made _ _ _ _ ?_) <;> (simp only [size_alloc]; try omega)); done))
            | (focus ((refine Nums.drew (Nums.alloc (Nums.made _ _ _ _ ?_) ?_ _) <;> (simp only [size_alloc]; try omega)); done))
            | (focus ((refine Nums.drew (Nums.alloc (Nums.alloc (Nums.made _ _ _ _ ?_) ?_ _) ?_ _) <;> (simp only [size_alloc]; try omega)); done)))
         rw [HC.out, HM.out]
         (first
            | (focus ((refine Nums.drew (Nums.made _ _ _ _ ?_) <;> (simp only [size_alloc]; try omega)); done))
            | (focus ((refine Nums.drew (Nums.alloc (Nums.made _ _ _ _ ?_) ?_ _) <;> (simp only [size_alloc]; try omega)); done))
            | (focus ((refine Nums.drew (Nums.alloc (Nums.alloc (Nums.made _ _ _ _ ?_) ?_ _) ?_ _) <;> (simp only [size_alloc]; try omega)); done)))
         (first
            | (focus (refine cell_drew (cell_new _ _ _ _ _ _ ?_ rfl); simp only [size_alloc]; done))
            | (focus (refine cell_drew (cell_alloc (cell_new _ _ _ _ _ _ ?_ rfl) _); simp only [size_alloc]; done))
            | (focus (refine cell_drew (cell_alloc (cell_alloc (cell_new _ _ _ _ _ _ ?_ rfl) _) _); simp only [size_alloc]; done))
            | (focus (refine cell_drew (cell_alloc (cell_alloc (cell_alloc (cell_new _ _ _ _ _ _ ?_ rfl) _) _) _); simp only [size_alloc]; done)))
         (first
            | (focus (refine cell_drew (cell_new _ _ _ _ _ _ ?_ rfl); simp only [size_alloc]; done))
            | (focus (refine cell_drew (cell_alloc (cell_new _ _ _ _ _ _ ?_ rfl) _); simp only [size_alloc]; done))
            | (focus (refine cell_drew (cell_alloc (cell_alloc (cell_new _ _ _ _ _ _ ?_ rfl) _) _); simp only [size_alloc]; done))
            | (focus (refine cell_drew (cell_alloc (cell_alloc (cell_alloc (cell_new _ _ _ _ _ _ ?_ rfl) _) _) _); simp only [size_alloc]; done)))
         (focus (refine frozen_drew (frozen_alloc (frozen_alloc (frozen_alloc (frozen_new _ _ _ _ _ ?_) ?_ _) ?_ _) ?_ _) <;> (simp only [size_alloc]; try omega)))
         all_goals first | omega | (refine lt_drew ?_; simp only [size_alloc]; omega))
  case rest =>
    obtain ⟨T, B, C, rfl, HS⟩ := hcut
    clear hk1 hk2 d1 d2 d3
    have hs := HS.out
    rw [HM.out] at hs
    have HS := Lib.hid hs
    clear hs
    go_wp2_with fail
    go_loopw [7] (fun i wr => ∃ k : Nat, k ≤ m ∧ i = .int .i64 ((k : Int) - 1) ∧ Hid (Stands w wr T B C l n k)) (fun i _ => (intOf i + 1).toNat)
    case atStart => exact ⟨m, Nat.le_refl _, rfl, HS⟩
    case round =>
      obtain ⟨k, hk, rfl, HW⟩ := hrel
      by_cases hk0 : k = 0
      · have d : decide ((0 : Int) ≤ (k : Int) - 1) = false := decide_eq_false (by omega)
        have d2 : decide ((1 : Int) ≤ (k : Int)) = false := decide_eq_false (by omega)
        obtain ⟨⟨t0, t1⟩, hB, hC, ⟨r0, r1, rf⟩, hne, hlt, hbel⟩ := HW.out
        obtain ⟨n1, n2, n3, n4, n5, n6⟩ := hne
        rw [hk0, bucketsL_z] at hB
        rw [hk0, chainL_z] at hC
        rw [HM.out] at t1
        have hB2 := (hB.far (p := ⟨w.heap.size, 0, none⟩) (by simp; omega) (.slice (some ⟨B, 0, none⟩) n n)).far (p := ⟨w.heap.size, 1, none⟩) (by simp; omega) (.slice (some ⟨C, 0, none⟩) m m)
        have hC2 := (hC.far (p := ⟨w.heap.size, 0, none⟩) (by simp; omega) (.slice (some ⟨B, 0, none⟩) n n)).far (p := ⟨w.heap.size, 1, none⟩) (by simp; omega) (.slice (some ⟨C, 0, none⟩) m m)
        have HBR := Lib.hid (hB2.rd n (by rw [i64s_length, bucketsZ_len]))
        have HCR := Lib.hid (hC2.rd l.length (by rw [i64s_length, chainZ_len]))
        have HLT := Lib.hid hlt
        have HNE := Lib.hid (show w.heap.size ≤ B ∧ w.heap.size ≤ C from ⟨by omega, by omega⟩)
        have HBEL := Lib.hid ((hbel.setCell (p := ⟨w.heap.size, 0, none⟩) (Nat.le_refl _) (.slice (some ⟨B, 0, none⟩) n n)).setCell (p := ⟨w.heap.size, 1, none⟩) (Nat.le_refl _) (.slice (some ⟨C, 0, none⟩) m m))
        have k0 : ((wr.setCell ⟨w.heap.size, 0, none⟩ (.slice (some ⟨B, 0, none⟩) n n)).setCell ⟨w.heap.size, 1, none⟩ (.slice (some ⟨C, 0, none⟩) m m)).cell? ⟨w.heap.size, 0, none⟩ = some (.slice (some ⟨B, 0, none⟩) n n) := (World.cell?_setCell_other _ _ _ _ (by simp)).trans (World.cell?_setCell_same _ _ _ r0)
        have k1 : ((wr.setCell ⟨w.heap.size, 0, none⟩ (.slice (some ⟨B, 0, none⟩) n n)).setCell ⟨w.heap.size, 1, none⟩ (.slice (some ⟨C, 0, none⟩) m m)).cell? ⟨w.heap.size, 1, none⟩ = some (.slice (some ⟨C, 0, none⟩) m m) := World.cell?_setCell_same _ _ _ ((World.cell?_setCell_other _ _ _ _ (by simp)).trans r1)
        have K0 := Lib.hid k0
        have K1 := Lib.hid k1
        have rf0 := rf 0
        have rf1 := rf 1
        clear hB hC hB2 hC2 hlt hbel hk0 rf k0 k1 n1 n2 n3 n4 n5 n6
        go_wp2_with fail
        have k0 := K0.out
        have k1 := K1.out
        refine bodyPost_ret (v := .tuple #[.agg #[.slice (some ⟨B, 0, none⟩) n n, .slice (some ⟨C, 0, none⟩) m m], .int .i64 0]) ?_ rfl ?_
        · simp [results, Try.results65, go_sem, k0, k1]
        · exact ⟨B, C, by rw [HM.out], HBR.out, HCR.out, by simp; exact HLT.out.1, by simp; exact HLT.out.2.1, HNE.out, HBEL.out⟩
      · obtain ⟨j, rfl⟩ : ∃ j, k = j + 1 := ⟨k - 1, by omega⟩
        rw [show (((j + 1 : Nat) : Int)) - 1 = (j : Int) by omega]
        have hj : j < m := by omega
        have hjl : j < l.length := by rw [HM.out]; exact hj
        obtain ⟨S, o, rfl, hSl, hc⟩ := (HL.out.below HW.out.2.2.2.2.2.2).at_ hjl
        have hlen := HNM.out _ (List.getElem_mem hjl)
        obtain ⟨s, hs⟩ : ∃ s, l[j] = s := ⟨_, rfl⟩
        rw [hs] at hc hlen
        have HSY := Lib.hid hs
        have HCE := Lib.hid hc
        obtain ⟨h0, h1_, h2_, h3, h4, h5, h6, h7⟩ := hc
        clear hs hk0
        by_cases hsh : shownB s = true
        · go_wp2_with fail
          refine (shown_sym s _).mono ?_; rintro e w1 ⟨rfl, hb1⟩
          rw [hsh]
          have HW1 := Lib.hid (HW.out.below hb1)
          have HCE1 := Lib.hid (HCE.out.below hb1)
          clear h0 h1_ h2_ h3 h4 h5 h6 h7 HW HCE hb1
          go_wp2_with fail
          have HBU := Lib.hid (fun w => bucket_any B 0 n n (.slice (some ⟨C, 0, none⟩) m m) s.name hlen (by omega) (by omega) w)
          have hq : ofH s.name % n < n := Nat.mod_lt _ (by omega)
          have hyes := lay_yes l n j (by omega) hjl (by rw [HSY.out]; exact hsh)
          rw [HSY.out] at hyes
          have HYES := Lib.hid hyes
          obtain ⟨q, hqq⟩ : ∃ q, ofH s.name % n = q := ⟨_, rfl⟩
          rw [hqq] at hq HBU HYES
          have HQ := Lib.hid hqq
          clear hqq hyes
          have hS := HW1.out
          obtain ⟨⟨t0, t1⟩, hB, hC, -, -, -, -⟩ := hS
          rw [HM.out] at t1
          have hcn := HCE1.out.1
          have HT := Lib.hid (And.intro t0 (And.intro t1 hcn))
          clear hB hC
          have ij0 : (0 : Int) ≤ (j : Int) := by omega
          have ij1 : (j : Int) < (m : Int) := by omega
          go_region_held3 (fun W => W.cell? ⟨T, 0, none⟩ = some (.slice (some ⟨B, 0, none⟩) n n) ∧ W.cell? ⟨T, 1, none⟩ = some (.slice (some ⟨C, 0, none⟩) m m) ∧ W.cell? ⟨S, o + j * 8, none⟩ = some (.string ⟨s.name.toArray⟩))
            (first | exact HT.out | exact HT2.out | go_keep)
            (first
              | (go_at_call 67; (with_reducible refine (HBU.out _).mono ?_); rintro e w2 ⟨rfl, hb2⟩; have HB2 := Lib.hid (bTrans (Below.drew (Below.refl _ _)) hb2); have HW2 := Lib.hid (HW1.out.below HB2.out); have HCE2 := Lib.hid (HCE1.out.below HB2.out); have HT2 := Lib.hid (And.intro HW2.out.1.1 (And.intro (HW2.out.chain HM.out) HCE2.out.1)); clear hb2))
          go_wp2_with fail
          have hT2 := HT2.out
          obtain ⟨x0, x1, -⟩ := hT2
          obtain ⟨-, hB, hC, -, ⟨n1, n2, n3, n4, n5, n6⟩, -, -⟩ := HW2.out
          have cb := hB.2 q _ (bucketsL_at l n (j + 1) q hq)
          have cc : w2.cell? ⟨C, j, none⟩ = some (.int .i64 0) := by
            have := hC.2 j _ (chainL_at l n (j + 1) j hjl)
            rw [if_neg (by omega)] at this
            exact this
          have fb := hB.1 q
          have fc := hC.1 j
          obtain ⟨nx, hnx⟩ : ∃ nx, ((nextN l n q (j + 1) : Nat) : Int) = nx := ⟨_, rfl⟩
          rw [hnx] at cb
          have HNX := Lib.hid hnx
          clear hB hC t0 t1 hcn hnx
          have hw1 : IntKind.i64.wrap ((j : Int) + 1) = (j : Int) + 1 := IntWalk.i64_in _ (by omega)
          go_region_law (fail)
          all_goals (go_wp2_with fail)
          all_goals go_roundw
          all_goals first
            | exact ⟨j, by omega, rfl, Lib.hid (HW2.out.laid HYES.out.1 HYES.out.2 HNX.out)⟩
            | (simp [intOf]; done)
        · rw [Bool.not_eq_true] at hsh
          have hno := lay_not l n j hjl (by rw [HSY.out]; exact hsh)
          go_wp2_with fail
          refine (shown_sym s _).mono ?_; rintro e w1 ⟨rfl, hb1⟩
          rw [hsh]
          have hw1 := HW.out.below hb1
          have hw2 : Stands w w1 T B C l n j := by
            unfold Stands at hw1 ⊢
            rw [hno.1, hno.2]; exact hw1
          have HW2 := Lib.hid hw2
          clear h0 h1_ h2_ h3 h4 h5 h6 h7 HW HCE hb1 hw1 hw2 hno
          go_wp2_with fail
          go_roundw
          case rel => exact ⟨j, by omega, rfl, HW2⟩
          case measure => simp [intOf]
end Go.Proofs.Ythammjpadbbflaa
