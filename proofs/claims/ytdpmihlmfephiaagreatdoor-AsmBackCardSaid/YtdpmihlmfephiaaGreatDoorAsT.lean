/- What the rows' conditions on package-level variables give the walks. -/
import Derived.Test.YtdpmihlmfephiaaGreatDoorIsaF
import Derived.Test.YtdpmihlmfephiaaGreatDoorShelf
import Derived.Lib.AppendIntMem
import Derived.Lib.AtoiErrMem
import Derived.Lib.LaidTab
namespace Go.Proofs.YtdpmihlmfephiaaGreatDoor
set_option linter.unusedVariables false
set_option linter.unusedSimpArgs false
open Go.Joins Go.ChangeShapes Go.WideShapes Go.ChangeAt Go.RowKit

abbrev Tab (B : Nat) (w : World) : Prop := Lib.TabBelow Tryz.prog B w "internal/strconv.uint64pow10" .u64 Lib.pow10Tab
theorem tab_on {w w1 : World} (h : Tab w.heap.size w) (hb : Below w.heap.size w w1) : Tab w1.heap.size w1 := fun w' h' => h w' (hb.trans (h'.mono hb.size))
/-- the tables and the library's own variables stand in the heap -/
structure NA (w : World) : Prop where
  nt : NT w
  tab : Tab w.heap.size w
  es : ∃ tp p, w.cell? ⟨8, 0, none⟩ = some (.iface tp p)
  er : ∃ tp p, w.cell? ⟨9, 0, none⟩ = some (.iface tp p)
  ml : ∃ m, w.cell? ⟨2, 0, none⟩ = some (.int .i64 m)
theorem NA.on {w w' : World} (h : NA w) (hb : Below w.heap.size w w') : NA w' := by
  refine ⟨h.nt.on hb, tab_on h.tab hb, ?_, ?_, ?_⟩
  · obtain ⟨tp, p, hc⟩ := h.es
    exact ⟨tp, p, (hb.cell (heap_lt_of_cell hc)).trans hc⟩
  · obtain ⟨tp, p, hc⟩ := h.er
    exact ⟨tp, p, (hb.cell (heap_lt_of_cell hc)).trans hc⟩
  · obtain ⟨m, hc⟩ := h.ml
    exact ⟨m, (hb.cell (heap_lt_of_cell hc)).trans hc⟩
theorem NA.drew {w : World} (h : NA w) : NA w.drew := h.on (Below.drew (Below.refl _ _))
theorem NA.alloc {w : World} (h : NA w) (o : Go.Obj) : NA (w.alloc o) := h.on (bAlloc (Below.refl _ _) o)
theorem gPow : Tryz.prog.globalNamed "internal/strconv.uint64pow10" = some 3 := by kernel_rfl
theorem tPow : (Tryz.prog.globals[3]?).map (·.type) = some 155 := by kernel_rfl
theorem gEs : Tryz.prog.globalNamed "strconv.ErrSyntax" = some 8 := by kernel_rfl
theorem gEr : Tryz.prog.globalNamed "strconv.ErrRange" = some 9 := by kernel_rfl
theorem tEs : (Tryz.prog.globals[8]?).map (·.type) = some 79 := by kernel_rfl
theorem tEr : (Tryz.prog.globals[9]?).map (·.type) = some 79 := by kernel_rfl
theorem cellsE : Tryz.prog.cellsOf 181 = 1 := by kernel_rfl
theorem cellsS : Tryz.prog.cellsOf 9 = 1 := by kernel_rfl
theorem starE : "*" ++ "errors.errorString" = "*errors.errorString" := by decide
theorem errRow (u : TypeId) (h : Tryz.prog.typeName? 3 u = some "*errors.errorString") : u = 179 :=
  typeName_ptr_named (nm := "errors.errorString") (by rw [starE]; kernel_rfl) (by kernel_rfl) (by decide) u (by rw [starE]; exact h)
set_option maxRecDepth 100000 in
theorem na_of {W : World} (h : laidMetH Tryz.prog laid2 W) (hsh : W.ShapedOpen Tryz.prog) : NA W := by
  have hn := nt_of h
  rw [MakeChecks.laidMetH_plain _ _ _ (by kernel_rfl)] at h
  have h4 := laidMet.tail (laidMet.tail (laidMet.tail (laidMet.tail h)))
  have h6 := laidMet.tail (laidMet.tail h4)
  have h7 := laidMet.tail h6
  refine ⟨hn, Lib.tabBelow_of_tabIs (Lib.tabIs_of_head gPow tPow Tryz.underlying155 Tryz.underlying42 (by kernel_rfl) (by kernel_rfl) h4), ?_, ?_, Tryz.laysM219.s1_3 W hsh⟩
  · obtain ⟨a, s, hv, -⟩ := laid_sentinel h7 gEs tEs Tryz.underlying79 errRow Tryz.underlying179 Tryz.underlying181 rfl rfl Tryz.underlying9 cellsE cellsS
    have hc := World.var?_cell gEs hv 0
    exact ⟨_, _, by simpa using hc⟩
  · obtain ⟨a, s, hv, -⟩ := laid_sentinel h6 gEr tEr Tryz.underlying79 errRow Tryz.underlying179 Tryz.underlying181 rfl rfl Tryz.underlying9 cellsE cellsS
    have hc := World.var?_cell gEr hv 0
    exact ⟨_, _, by simpa using hc⟩
end Go.Proofs.YtdpmihlmfephiaaGreatDoor
