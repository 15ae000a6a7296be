/- Slices of symbols, and of numbers: contracts of the document's Next, of Numbers and of slices.Equal. -/
import Derived.Test.YthammjpadbbflaaHasC
import Derived.LoopTactic
import Derived.Outline
import Derived.Deep.QuietTactic
import Derived.BigQuiet
namespace Go.Proofs.Ythammjpadbbflaa
set_option linter.unusedVariables false
set_option linter.unusedSimpArgs false
open Go.Joins Go.ChangeShapes Go.WideShapes Go.ChangeAt Go.RowKit

/-- the slice of address a reads as these symbols -/
def RdS (w : World) (a : Option Addr) (l : List Sym) : Prop :=
  0 < l.length → ∃ b off, a = some ⟨b, off, none⟩ ∧ b < w.heap.size ∧ ∀ k (h : k < l.length) j, w.cell? ⟨b, off + k * 8 + j, none⟩ = (symC l[k])[j]? ∨ 8 ≤ j
theorem RdS.below {w w' : World} {a : Option Addr} {l : List Sym} (h : RdS w a l) (hb : Below w.heap.size w w') : RdS w' a l := fun hn => by
  obtain ⟨b, off, e, hl, hc⟩ := h hn
  exact ⟨b, off, e, Nat.lt_of_lt_of_le hl hb.size, fun k hk j => (hc k hk j).imp (fun q => (hb.cell (p := ⟨b, off + k * 8 + j, none⟩) hl).trans q) id⟩
/-- the eight cells of one symbol -/
def Cells8 (w : World) (b o : Nat) (s : Sym) : Prop :=
  w.cell? ⟨b, o, none⟩ = some (.string ⟨s.name.toArray⟩) ∧ w.cell? ⟨b, o + 1, none⟩ = some (.string ⟨s.ver.toArray⟩) ∧ w.cell? ⟨b, o + 2, none⟩ = some (.int .u64 s.place) ∧ w.cell? ⟨b, o + 3, none⟩ = some (.int .u64 s.size) ∧
    w.cell? ⟨b, o + 4, none⟩ = some (.int .i64 s.kind) ∧ w.cell? ⟨b, o + 5, none⟩ = some (.int .i64 s.bind) ∧ w.cell? ⟨b, o + 6, none⟩ = some (.int .i64 s.seen) ∧ w.cell? ⟨b, o + 7, none⟩ = some (.bool s.defd)
theorem RdS.at_ {w : World} {a : Option Addr} {l : List Sym} (h : RdS w a l) {k : Nat} (hk : k < l.length) :
    ∃ b off, a = some ⟨b, off, none⟩ ∧ b < w.heap.size ∧ Cells8 w b (off + k * 8) l[k] := by
  obtain ⟨b, off, e, hl, hc⟩ := h (by omega)
  have g : ∀ j, j < 8 → w.cell? ⟨b, off + k * 8 + j, none⟩ = (symC l[k])[j]? := fun j hj => (hc k hk j).resolve_right (by omega)
  exact ⟨b, off, e, hl, g 0 (by decide), g 1 (by decide), g 2 (by decide), g 3 (by decide), g 4 (by decide), g 5 (by decide), g 6 (by decide), g 7 (by decide)⟩
theorem Cells8.below {w w' : World} {b o : Nat} {s : Sym} (h : Cells8 w b o s) (hb : Below w.heap.size w w') : Cells8 w' b o s := by
  have hl := heap_lt_of_cell h.1
  obtain ⟨h0, h1, h2, h3, h4, h5, h6, h7⟩ := h
  have g : ∀ j v, w.cell? ⟨b, j, none⟩ = some v → w'.cell? ⟨b, j, none⟩ = some v := fun j v q => (hb.cell (p := ⟨b, j, none⟩) hl).trans q
  exact ⟨g _ _ h0, g _ _ h1, g _ _ h2, g _ _ h3, g _ _ h4, g _ _ h5, g _ _ h6, g _ _ h7⟩

theorem wrap_mod (q n b : Nat) (hn : 0 < n) (hn2 : n < 4294967296) : (wrap64 ((q : Int) % (n : Int)) == (b : Int)) = (q % n == b) := by
  have h1 : ((q : Int) % (n : Int)) = ((q % n : Nat) : Int) := by simp
  have h2 := Nat.mod_lt q hn
  rw [h1]
  unfold wrap64
  rw [Bool.eq_iff_iff, beq_iff_eq, beq_iff_eq]
  omega
theorem rshown_sym (s : Sym) (w : World) : Calls Try.prog 21 #[.agg #[.string ⟨s.name.toArray⟩, .string ⟨s.ver.toArray⟩, .int .u64 s.place, .int .u64 s.size, .int .i64 s.kind, .int .i64 s.bind, .int .i64 s.seen, .bool s.defd]] w fun e w' => e = .returned (.bool (shownB s)) ∧ Below w.heap.size w w' := rshown_any _ _ _ _ _ _ _ _ w

end Go.Proofs.Ythammjpadbbflaa
