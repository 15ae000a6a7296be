/- The chapter's examples: number, awake. -/
import Derived.Test.YtdpmihlmfephiaaGreatDoorIsaF
import Derived.Test.YtdpmihlmfephiaaGreatDoorIsaG
namespace Go.Proofs.YtdpmihlmfephiaaGreatDoor
set_option linter.unusedVariables false
set_option linter.unusedSimpArgs false
open Go.Joins Go.ChangeShapes Go.WideShapes Go.ChangeAt Go.RowKit

def findC (s : List UInt8) (r : Nat) : Bool := decide (1 ≤ r) && (decide (r ≤ 82) && ((opN (r : Int) == s) && ((List.range (r - 1)).all fun k => !(opN ((k : Int) + 1) == s))))
theorem findP_of (s : List UInt8) (r : Nat) (h : findC s r = true) : FindP s r := by
  unfold findC at h
  rw [Bool.and_eq_true, Bool.and_eq_true, Bool.and_eq_true, decide_eq_true_iff, decide_eq_true_iff, List.all_eq_true] at h
  obtain ⟨h1, h2, h3, h4⟩ := h
  refine .inr ⟨h1, h2, h3, fun k hk => ?_⟩
  have := h4 k (List.mem_range.mpr (by omega))
  rwa [Bool.not_eq_true'] at this
def noneC (x : Nat) : Bool := (List.range 82).all fun k => !hitB (bareN ((k : Int) + 1)) x
theorem decP_none (x : Nat) (h : noneC x = true) : DecP x 0 := by
  unfold noneC at h
  rw [List.all_eq_true] at h
  refine .inl ⟨rfl, fun k hk => ?_⟩
  have := h k (List.mem_range.mpr hk)
  rwa [Bool.not_eq_true'] at this
theorem ex1 : FindP [97, 100, 100, 105] 29 := findP_of _ _ (by decide +kernel)
theorem ex2 : FindP [115, 100] 53 := findP_of _ _ (by decide +kernel)
theorem ex3 : FindP [98, 101, 113] 55 := findP_of _ _ (by decide +kernel)
theorem ex4 : FindP [99, 115, 101, 116, 98, 111, 117, 110, 100, 115] 67 := findP_of _ _ (by decide +kernel)
theorem ex5 : FindP [101, 99, 97, 108, 108] 65 := findP_of _ _ (by decide +kernel)
theorem en1 : encR 29 1 0 0 5 = 5243027 := by decide +kernel
theorem en2 : encR 53 0 1 2 8 = 2143267 := by decide +kernel
theorem en3 : encR 55 0 1 2 (-4) = 4263546595 := by decide +kernel
theorem en4 : encR 67 3 1 2 0 = 270565851 := by decide +kernel
theorem en5 : encR 65 0 0 0 0 = 115 := by decide +kernel
theorem de1 : DecP 0 0 := decP_none _ (by decide +kernel)
theorem de2 : DecP 4294967295 0 := decP_none _ (by decide +kernel)
theorem de3 : DecP 4263546595 55 := .inr ⟨by decide, by decide, by decide +kernel⟩
theorem dv0 (x : Nat) : decV x 0 = instV 0 0 0 0 0 := by unfold decV; rw [if_pos rfl]
theorem dv3 : decV 4263546595 55 = instV 55 0 1 2 (-4) := by kernel_rfl
end Go.Proofs.YtdpmihlmfephiaaGreatDoor
