/- Contracts of the document's may and Imm. -/
import Derived.Test.YtdpmihlmfephiaaGreatDoorIsaS
namespace Go.Proofs.YtdpmihlmfephiaaGreatDoor
set_option linter.unusedVariables false
set_option maxRecDepth 100000
set_option linter.unusedSimpArgs false
open Go.Joins Go.ChangeShapes Go.WideShapes Go.ChangeAt Go.RowKit

/-- an operation as a value -/
def operV (s : List UInt8) (k c f3 f7 sh : Int) : Value := .agg #[.string ⟨s.toArray⟩, .int .i64 k, .int .i64 c, .int .i64 f3, .int .i64 f7, .int .i64 sh]
def May (s : List UInt8) (c f3 f7 n sh : Int) (k : Int) : Prop := ∀ w : World, Calls Tryz.prog 95 #[operV s k c f3 f7 sh, .int .i64 n] w fun e w' => e = .returned (.bool (immB k sh n)) ∧ Below w.heap.size w w'
theorem may2_5 (s : List UInt8) (c f3 f7 n : Int) : May s c f3 f7 n 5 2 := by
  intro w
  unfold operV
  go_enter Tryz.func95, Tryz.ntmps95
  go_wp2_with fail
  all_goals (refine bodyPost_ret (v := .bool (immB 2 5 n)) ?_ rfl ⟨rfl, bAlloc (Below.refl _ _) _⟩)
  all_goals first
    | (simp [results, Tryz.results95, go_sem, immB, *]; done)
    | (simp [results, Tryz.results95, go_sem, immB, *]; omega)
    | (simp [results, Tryz.results95, go_sem, immB, *]; rw [Bool.eq_iff_iff]; simp; omega)
theorem may2_6 (s : List UInt8) (c f3 f7 n : Int) : May s c f3 f7 n 6 2 := by
  intro w
  unfold operV
  go_enter Tryz.func95, Tryz.ntmps95
  go_wp2_with fail
  all_goals (refine bodyPost_ret (v := .bool (immB 2 6 n)) ?_ rfl ⟨rfl, bAlloc (Below.refl _ _) _⟩)
  all_goals first
    | (simp [results, Tryz.results95, go_sem, immB, *]; done)
    | (simp [results, Tryz.results95, go_sem, immB, *]; omega)
    | (simp [results, Tryz.results95, go_sem, immB, *]; rw [Bool.eq_iff_iff]; simp; omega)
theorem may2_0 (s : List UInt8) (c f3 f7 n : Int) : May s c f3 f7 n 0 2 := by
  intro w
  unfold operV
  go_enter Tryz.func95, Tryz.ntmps95
  go_wp2_with fail
  all_goals (refine bodyPost_ret (v := .bool (immB 2 0 n)) ?_ rfl ⟨rfl, bAlloc (Below.refl _ _) _⟩)
  all_goals first
    | (simp [results, Tryz.results95, go_sem, immB, *]; done)
    | (simp [results, Tryz.results95, go_sem, immB, *]; omega)
    | (simp [results, Tryz.results95, go_sem, immB, *]; rw [Bool.eq_iff_iff]; simp; omega)
theorem may3_0 (s : List UInt8) (c f3 f7 n : Int) : May s c f3 f7 n 0 3 := by
  intro w
  unfold operV
  go_enter Tryz.func95, Tryz.ntmps95
  go_wp2_with fail
  all_goals (refine bodyPost_ret (v := .bool (immB 3 0 n)) ?_ rfl ⟨rfl, bAlloc (Below.refl _ _) _⟩)
  all_goals first
    | (simp [results, Tryz.results95, go_sem, immB, *]; done)
    | (simp [results, Tryz.results95, go_sem, immB, *]; omega)
    | (simp [results, Tryz.results95, go_sem, immB, *]; rw [Bool.eq_iff_iff]; simp; omega)
theorem may4_0 (s : List UInt8) (c f3 f7 n : Int) : May s c f3 f7 n 0 4 := by
  intro w
  unfold operV
  go_enter Tryz.func95, Tryz.ntmps95
  go_wp2_with fail
  all_goals (refine bodyPost_ret (v := .bool (immB 4 0 n)) ?_ rfl ⟨rfl, bAlloc (Below.refl _ _) _⟩)
  all_goals first
    | (simp [results, Tryz.results95, go_sem, immB, *]; done)
    | (simp [results, Tryz.results95, go_sem, immB, *]; omega)
    | (simp [results, Tryz.results95, go_sem, immB, *]; rw [Bool.eq_iff_iff]; simp; omega)
theorem may5_0 (s : List UInt8) (c f3 f7 n : Int) : May s c f3 f7 n 0 5 := by
  intro w
  unfold operV
  have ht : (n.tmod 2 == 0) = (n % 2 == 0) := tmod_zero n 2
  by_cases hz : n % 2 = 0
  · rw [show (n % 2 == 0) = true by rw [beq_iff_eq]; exact hz] at ht
    go_enter Tryz.func95, Tryz.ntmps95
    go_wp2_with fail
    all_goals (refine bodyPost_ret (v := .bool (immB 5 0 n)) ?_ rfl ⟨rfl, bAlloc (Below.refl _ _) _⟩)
    all_goals first
      | (simp [results, Tryz.results95, go_sem, immB, *]; done)
      | (simp [results, Tryz.results95, go_sem, immB, *]; omega)
      | (simp [results, Tryz.results95, go_sem, immB, *]; rw [Bool.eq_iff_iff]; simp; omega)
  · rw [show (n % 2 == 0) = false from beq_false_of_ne hz] at ht
    go_enter Tryz.func95, Tryz.ntmps95
    go_wp2_with fail
    all_goals (refine bodyPost_ret (v := .bool (immB 5 0 n)) ?_ rfl ⟨rfl, bAlloc (Below.refl _ _) _⟩)
    all_goals first
      | (simp [results, Tryz.results95, go_sem, immB, *]; done)
      | (simp [results, Tryz.results95, go_sem, immB, *]; omega)
      | (simp [results, Tryz.results95, go_sem, immB, *]; rw [Bool.eq_iff_iff]; simp; omega)
theorem may6_0 (s : List UInt8) (c f3 f7 n : Int) : May s c f3 f7 n 0 6 := by
  intro w
  unfold operV
  have ht : (n.tmod 4096 == 0) = (n % 4096 == 0) := tmod_zero n 4096
  by_cases hz : n % 4096 = 0
  · rw [show (n % 4096 == 0) = true by rw [beq_iff_eq]; exact hz] at ht
    go_enter Tryz.func95, Tryz.ntmps95
    go_wp2_with fail
    all_goals (refine bodyPost_ret (v := .bool (immB 6 0 n)) ?_ rfl ⟨rfl, bAlloc (Below.refl _ _) _⟩)
    all_goals first
      | (simp [results, Tryz.results95, go_sem, immB, *]; done)
      | (simp [results, Tryz.results95, go_sem, immB, *]; omega)
      | (simp [results, Tryz.results95, go_sem, immB, *]; rw [Bool.eq_iff_iff]; simp; omega)
  · rw [show (n % 4096 == 0) = false from beq_false_of_ne hz] at ht
    go_enter Tryz.func95, Tryz.ntmps95
    go_wp2_with fail
    all_goals (refine bodyPost_ret (v := .bool (immB 6 0 n)) ?_ rfl ⟨rfl, bAlloc (Below.refl _ _) _⟩)
    all_goals first
      | (simp [results, Tryz.results95, go_sem, immB, *]; done)
      | (simp [results, Tryz.results95, go_sem, immB, *]; omega)
      | (simp [results, Tryz.results95, go_sem, immB, *]; rw [Bool.eq_iff_iff]; simp; omega)
theorem may7_0 (s : List UInt8) (c f3 f7 n : Int) : May s c f3 f7 n 0 7 := by
  intro w
  unfold operV
  have ht : (n.tmod 2 == 0) = (n % 2 == 0) := tmod_zero n 2
  by_cases hz : n % 2 = 0
  · rw [show (n % 2 == 0) = true by rw [beq_iff_eq]; exact hz] at ht
    go_enter Tryz.func95, Tryz.ntmps95
    go_wp2_with fail
    all_goals (refine bodyPost_ret (v := .bool (immB 7 0 n)) ?_ rfl ⟨rfl, bAlloc (Below.refl _ _) _⟩)
    all_goals first
      | (simp [results, Tryz.results95, go_sem, immB, *]; done)
      | (simp [results, Tryz.results95, go_sem, immB, *]; omega)
      | (simp [results, Tryz.results95, go_sem, immB, *]; rw [Bool.eq_iff_iff]; simp; omega)
  · rw [show (n % 2 == 0) = false from beq_false_of_ne hz] at ht
    go_enter Tryz.func95, Tryz.ntmps95
    go_wp2_with fail
    all_goals (refine bodyPost_ret (v := .bool (immB 7 0 n)) ?_ rfl ⟨rfl, bAlloc (Below.refl _ _) _⟩)
    all_goals first
      | (simp [results, Tryz.results95, go_sem, immB, *]; done)
      | (simp [results, Tryz.results95, go_sem, immB, *]; omega)
      | (simp [results, Tryz.results95, go_sem, immB, *]; rw [Bool.eq_iff_iff]; simp; omega)
theorem may_any (s : List UInt8) (k c f3 f7 sh n : Int) (w : World) (hs : sh = 0 ∨ (k = 2 ∧ (sh = 5 ∨ sh = 6))) :
    Calls Tryz.prog 95 #[operV s k c f3 f7 sh, .int .i64 n] w fun e w' => e = .returned (.bool (immB k sh n)) ∧ Below w.heap.size w w' := by
  rcases hs with rfl | ⟨rfl, rfl | rfl⟩
  · refine kinds (P := May s c f3 f7 n 0) k (may2_0 s c f3 f7 n) (may3_0 s c f3 f7 n) (may4_0 s c f3 f7 n) (may5_0 s c f3 f7 n) (may6_0 s c f3 f7 n) (may7_0 s c f3 f7 n) ?_ w
    intro k g2 g3 g4 g5 g6 g7 w
    have hr : immB k 0 n = (n == 0) := by simp [immB, g2, g3, g4, g5, g6, g7]; rw [Bool.eq_iff_iff]; simp
    rw [hr]
    clear hr
    unfold operV
    go_enter Tryz.func95, Tryz.ntmps95
    go_wp2_with fail
    go_ret
    exact ⟨rfl, bAlloc (Below.refl _ _) _⟩
  · exact may2_5 s c f3 f7 n w
  · exact may2_6 s c f3 f7 n w
end Go.Proofs.YtdpmihlmfephiaaGreatDoor
