/- A symbol's cells; contracts of is, and of a table's bucket of a name. -/
import Derived.Test.YthammjpadbbflaaHasA
import Derived.Below
import Derived.Deep.RegionHeld3
import Derived.Deep.RegionWith
import Derived.Laws.NewBlocks
namespace Go.Proofs.Ythammjpadbbflaa
set_option linter.unusedVariables false
set_option linter.unusedSimpArgs false
open Go.Joins Go.ChangeShapes Go.WideShapes Go.ChangeAt Go.RowKit

theorem boxed {w W' : World} {cs : Array Value} {t : TypeId} (h : Below (w.alloc (.cells cs t)).heap.size (w.alloc (.cells cs t)) W') (j : Nat) : W'.cell? ⟨w.heap.size, j, none⟩ = cs[j]? := by
  rw [h.cell (p := ⟨w.heap.size, j, none⟩) (by rw [size_alloc]; exact Nat.lt_succ_self _)]
  exact cell_of_row _ _ j cs t (0, 0) (heap_alloc_new w _)
/-- a symbol: its name, version, place, size, kind, how it binds, who sees it, whether it is defined -/
structure Sym where
  name : List UInt8
  ver : List UInt8
  place : Int
  size : Int
  kind : Int
  bind : Int
  seen : Int
  defd : Bool
def symC (s : Sym) : List Value := [.string ⟨s.name.toArray⟩, .string ⟨s.ver.toArray⟩, .int .u64 s.place, .int .u64 s.size, .int .i64 s.kind, .int .i64 s.bind, .int .i64 s.seen, .bool s.defd]
def symV (s : Sym) : Value := .agg (symC s).toArray
def shownB (s : Sym) : Bool := s.defd && (s.bind != 1 && s.seen == 1)
def isB (s : Sym) (name ver : List UInt8) : Bool := s.name == name && (ver == [] || s.ver == ver)
theorem is_any (s : Sym) (name ver : List UInt8) (w : World) :
    Calls Try.prog 68 #[symV s, .string ⟨name.toArray⟩, .string ⟨ver.toArray⟩] w fun e w' => e = .returned (.bool (isB s name ver)) ∧ Below w.heap.size w w' := by
  obtain ⟨nm, vr, pl, sz, kd, bd, sn, df⟩ := s
  unfold symV symC isB
  simp only []
  go_enter Try.func68, Try.ntmps68
  go_wp2_with fail
  all_goals (refine bodyPost_ret (v := .bool (nm == name && (ver == [] || vr == ver))) ?_ rfl ⟨rfl, bAlloc (Below.refl _ _) _⟩)
  all_goals first
    | (simp [results, Try.results68, go_sem, *]; done)
    | (simp [results, Try.results68, go_sem]; simp_all; done)
theorem index_mod (B o n c h : Nat) (hn : 0 < n) (W : World) : (Instr.indexAt 23 (.slice (some ⟨B, o, none⟩) n c) (.int .u32 ((h : Int) % (n : Int)))).run Try.prog W = .ok (.pointer (some ⟨B, o + h % n, none⟩)) W := by
  have hq : (0 : Int) ≤ (h : Int) % (n : Int) ∧ (h : Int) % (n : Int) < (n : Int) := ⟨Int.emod_nonneg _ (by omega), Int.emod_lt_of_pos _ (by omega)⟩
  simp [Instr.indexAt, go_sem, Sem.run_bind, run_underlying Try.underlying23]
  rw [if_pos hq]
  congr 4
set_option maxHeartbeats 4000000 in
theorem bucket_any (B o n c : Nat) (ch : Value) (s : List UInt8) (hs : s.length < 9223372036854775808) (hn : 0 < n) (hn2 : n < 4294967296) (w : World) :
    Calls Try.prog 67 #[.agg #[.slice (some ⟨B, o, none⟩) n c, ch], .string ⟨s.toArray⟩] w fun e w' => e = .returned (.pointer (some ⟨B, o + ofH s % n, none⟩)) ∧ Below w.heap.size w w' := by
  have HO := Lib.hid (fun w => of_any s w hs)
  have hlt := ofH_lt s
  generalize ofH s = h at *
  have hix := fun W => index_mod B o n c h hn W
  have b0 := (boxed (w := w) (cs := #[.slice (some ⟨B, o, none⟩) n c, ch]) (t := 100) (Below.refl _ _) 0).trans rfl
  have B0 : Hid ((w.alloc (.cells #[.slice (some ⟨B, o, none⟩) n c, ch] 100)).cell? ⟨w.heap.size, 0, none⟩ = some (.slice (some ⟨B, o, none⟩) n c)) := Lib.hid b0
  clear b0
  have hn0 : ¬ n = 0 := by omega
  have hn1 : ¬ (n : Int) = 0 := by omega
  go_enter Try.func67, Try.ntmps67
  go_wp2_with fail
  have hm1 : ((n : Int) % 4294967296) = (n : Int) := by omega
  have hn4 : ¬ (n : Int) % 4294967296 = 0 := by omega
  go_region_with (first
    | (go_at_call 88; refine (HO.out _).mono ?_; rintro e w1 ⟨rfl, rfl⟩))
  all_goals (go_wp2_with fail)
  all_goals (go_ret; exact ⟨rfl, Below.drew (bAlloc (Below.refl _ _) _)⟩)
end Go.Proofs.Ythammjpadbbflaa
