/- The program's tables of names and of own numbers: what the rows' condition says of them; the world in which a witness begins. -/
import Derived.Test.YtdpmihlmfephiaaGreatDoorTie
import Derived.Test.YtdpmihlmfephiaaGreatDoorCards
import Derived.Test.YtdpmihlmfephiaaGreatDoorOpsT
import Derived.Test.YtdpmihlmfephiaaGreatDoorIsaM
import Derived.Test.YtdpmihlmfephiaaGreatDoorMem
import Derived.Test.YtdpmihlmfephiaaGreatDoorWb
import Derived.Carry
import Derived.MakeChecks
import Derived.LaidMore
import Derived.Stop.LaidErr
import Derived.OpenShut
import Derived.Lib.Hide
import Derived.WalkKit
import Derived.ProofKit
import Derived.Lib.SmallJoins
namespace Go.Proofs.YtdpmihlmfephiaaGreatDoor
set_option linter.unusedVariables false
set_option linter.unusedSimpArgs false
open Go.Joins Go.ChangeShapes Go.WideShapes Go.ChangeAt Go.RowKit

/-- the tables of names and of own numbers stand in the heap -/
def NT (w : World) : Prop := (1 < w.heap.size ∧ ∀ i : Nat, i < 82 → w.cell? ⟨1, i, none⟩ = some (.string ⟨(opN ((i : Int) + 1)).toArray⟩)) ∧
  (0 < w.heap.size ∧ ∀ i : Nat, i < 82 → w.cell? ⟨0, i, none⟩ = some (.int .u32 ((bareN ((i : Int) + 1) : Nat) : Int)))
theorem NT.on {w w' : World} (h : NT w) (hb : Below w.heap.size w w') : NT w' :=
  ⟨⟨Nat.lt_of_lt_of_le h.1.1 hb.size, fun i hi => (hb.cell (p := ⟨1, i, none⟩) h.1.1).trans (h.1.2 i hi)⟩,
   ⟨Nat.lt_of_lt_of_le h.2.1 hb.size, fun i hi => (hb.cell (p := ⟨0, i, none⟩) h.2.1).trans (h.2.2 i hi)⟩⟩
def laid2 : List (String × DataW Unit) := [("math/bits.deBruijn32tab", Rows.laid_math_bits_deBruijn32tab), ("math/bits.deBruijn64tab", Rows.laid_math_bits_deBruijn64tab), ("curtilage/isa.names", Rows.laid_curtilage_isa_names), ("curtilage/isa.bare", Rows.laid_curtilage_isa_bare), ("internal/strconv.uint64pow10", Rows.laid_internal_strconv_uint64pow10), ("unicode/utf8.acceptRanges", Rows.laid_unicode_utf8_acceptRanges), ("strconv.ErrRange", Rows.laid_strconv_ErrRange), ("strconv.ErrSyntax", Rows.laid_strconv_ErrSyntax), ("unicode/utf8.first", Rows.laid_unicode_utf8_first)]
theorem own : ownKnob Tryz.prog.godebug = none := by kernel_rfl
theorem laidOut : laidOutB Tryz.prog = true := by kernel_rfl
theorem gNames : Tryz.prog.globalNamed "curtilage/isa.names" = some 1 := by kernel_rfl
theorem tNames : (Tryz.prog.globals[1]?).map (·.type) = some 99 := by kernel_rfl
theorem gBare : Tryz.prog.globalNamed "curtilage/isa.bare" = some 0 := by kernel_rfl
theorem tBare : (Tryz.prog.globals[0]?).map (·.type) = some 93 := by kernel_rfl
theorem names_datum : (Rows.laid_curtilage_isa_names : DataW Unit) = .agg ((List.range 82).map fun (i : Nat) => .lit (.string (opN ((i : Int) + 1)))) := by kernel_rfl
theorem bare_datum : (Rows.laid_curtilage_isa_bare : DataW Unit) = .agg ((List.range 82).map fun (i : Nat) => .lit (.int .u32 ((bareN ((i : Int) + 1) : Nat) : Int))) := by kernel_rfl

set_option maxRecDepth 100000 in
theorem nt_of {W : World} (h : laidMetH Tryz.prog laid2 W) : NT W := by
  rw [MakeChecks.laidMetH_plain _ _ _ (by kernel_rfl)] at h
  have h := laidMet.tail (laidMet.tail h)
  have hb := laidMet.tail h
  obtain ⟨ps, ⟨g0, t0, cs0, f0, p0, q0, hg0, ht0, hv0, hd0, _, _⟩, _⟩ := h
  obtain ⟨ps', ⟨g1, t1, cs1, f1, p1, q1, hg1, ht1, hv1, hd1, _, _⟩, _⟩ := hb
  constructor
  · obtain rfl := Option.some.inj (gNames.symm.trans hg0)
    obtain rfl := Option.some.inj (tNames.symm.trans ht0)
    rw [names_datum] at hd0
    obtain ⟨xs, m1, hcs, hx1, hlen, hn3, hel⟩ := DataW.trod_array Tryz.underlying99 hd0
    have c1 : Tryz.prog.cellsOf 9 = 1 := by kernel_rfl
    simp only [Prod.mk.injEq, DataW.agg.injEq] at hx1
    have hat : ∀ i : Nat, i < 82 → W.cell? ⟨1, i, none⟩ = some (.string ⟨(opN ((i : Int) + 1)).toArray⟩) := fun i hi => by
      have h := hel i hi
      rw [c1, Nat.mul_one, List.getElem?_eq_getElem (by omega)] at h
      obtain ⟨s, hs, hx, _⟩ := DataW.trod_string Tryz.underlying9 h
      have hm : (xs.map (·.1))[i]? = some (xs[i]'(by omega)).1 := by simp [show i < xs.length by omega]
      rw [← hx1.1, hx] at hm
      simp only [List.getElem?_map, List.getElem?_range hi, Option.map_some, Option.some.injEq, DataW.lit.injEq, Lit.string.injEq] at hm
      have hc := World.var?_cell gNames hv0 i
      have hl : cs0.toList[i]? = some (.string s) := by
        have := congrArg (·[0]?) hs
        simpa [List.getElem?_take, List.getElem?_drop] using this
      rw [hc, ← Array.getElem?_toList, hl]
      congr 2
      obtain ⟨⟨d⟩⟩ := s
      simp only at hm
      rw [hm]
    exact ⟨heap_lt_of_cell (hat 0 (by decide)), hat⟩
  · obtain rfl := Option.some.inj (gBare.symm.trans hg1)
    obtain rfl := Option.some.inj (tBare.symm.trans ht1)
    rw [bare_datum] at hd1
    obtain ⟨xs, m1, hcs, hx1, hlen, hn3, hel⟩ := DataW.trod_array Tryz.underlying93 hd1
    have c1 : Tryz.prog.cellsOf 39 = 1 := by kernel_rfl
    simp only [Prod.mk.injEq, DataW.agg.injEq] at hx1
    have hat : ∀ i : Nat, i < 82 → W.cell? ⟨0, i, none⟩ = some (.int .u32 ((bareN ((i : Int) + 1) : Nat) : Int)) := fun i hi => by
      have h := hel i hi
      rw [c1, Nat.mul_one, List.getElem?_eq_getElem (by omega)] at h
      obtain ⟨s, hs, hx, _⟩ := DataW.trod_int Tryz.underlying39 h
      have hm : (xs.map (·.1))[i]? = some (xs[i]'(by omega)).1 := by simp [show i < xs.length by omega]
      rw [← hx1.1, hx] at hm
      simp only [List.getElem?_map, List.getElem?_range hi, Option.map_some, Option.some.injEq, DataW.lit.injEq, Lit.int.injEq] at hm
      have hc := World.var?_cell gBare hv1 i
      have hl : cs1.toList[i]? = some (.int .u32 s) := by
        have := congrArg (·[0]?) hs
        simpa [List.getElem?_take, List.getElem?_drop] using this
      rw [hc, ← Array.getElem?_toList, hl, ← hm.2]
    exact ⟨heap_lt_of_cell (hat 0 (by decide)), hat⟩
/-- all arguments read behind a call that makes new blocks alone as they read before -/
theorem trodAll_stays {H : Type} {enc : TypeId × Value → H} {P : Program} (hl : laidOutB P = true) {W W' : World} (hb : Below W.heap.size W W') {sp : Nat → Bool} :
    ∀ {ts : List TypeId} {vs : List Value} {ds : List (DataW H)} {p : List MemPlace}, (ts.all fun t => P.readableRec t && decide (t < P.types.size)) = true →
      DataW.TrodAll enc P W 0 (fun _ => true) true ts vs ds p → (∀ x ∈ p, x.block < W.heap.size) → (∀ x ∈ p, sp x.block = true) → DataW.TrodAll enc P W' 0 sp true ts vs ds p
  | [], [], [], _, _, h, _, _ => h
  | t :: ts, v :: vs, d :: ds, _, hr, h, hlt, hs => by
    obtain ⟨p, q, h1, h2, rfl⟩ := h
    simp only [List.all_cons, Bool.and_eq_true, decide_eq_true_eq] at hr
    exact ⟨p, q, WideElems.Trod_stays hl hr.1.1 hr.1.2 h1 (fun x hx => hb.same (hlt x (List.mem_append_left _ hx))) (fun x hx => hs x (List.mem_append_left _ hx)),
      trodAll_stays hl hb hr.2 h2 (fun x hx => hlt x (List.mem_append_right _ hx)) (fun x hx => hs x (List.mem_append_right _ hx)), rfl⟩
  | [], [], _ :: _, _, _, h, _, _ => h.elim
  | [], _ :: _, _, _, _, h, _, _ => h.elim
  | _ :: _, [], _, _, _, h, _, _ => h.elim
  | _ :: _, _ :: _, [], _, _, h, _, _ => h.elim
end Go.Proofs.YtdpmihlmfephiaaGreatDoor
