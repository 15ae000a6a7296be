/- IsaF AluZ CapM -/
import Derived.Test.YtegoddghfjfibaaGreatDoorZ10
import Derived.Test.YtegoddghfjfibaaGreatDoorZ14
import Derived.LoopTactic
import Derived.Deep.MidRow
import Derived.Deep.Cut
import Derived.Great.Walk
import Derived.Test.YtegoddghfjfibaaGreatDoorZ17
import Derived.Test.YtegoddghfjfibaaGreatDoorZ01
namespace Go.Proofs.YtegoddghfjfibaaGreatDoor.Is
set_option linter.unusedVariables false
set_option linter.unusedSimpArgs false
open Go.Joins Go.ChangeShapes Go.WideShapes Go.ChangeAt Go.RowKit
/-- r is the number of the first operation of that name; 0: there is none -/
def FindP (s : List UInt8) (r : Nat) : Prop := (r = 0 ∧ ∀ k : Nat, k < 82 → (opN ((k : Int) + 1) == s) = false) ∨ (1 ≤ r ∧ r ≤ 82 ∧ (opN (r : Int) == s) = true ∧ ∀ k : Nat, k + 1 < r → (opN ((k : Int) + 1) == s) = false)
theorem is_yes (op : Int) (w : World) (h1 : 1 ≤ op) (h2 : op ≤ 82) : Calls Tryz.prog 136 #[.int .i64 op] w fun e w' => e = .returned (.bool true) ∧ w = w' := by
  have d1 : decide (1 ≤ op) = true := decide_eq_true h1
  have d2 : decide (op ≤ 82) = true := decide_eq_true h2
  go_enter Tryz.func136, Tryz.ntmps136
  go_wp2_with fail
  go_ret
  exact ⟨by simp [d1, d2], rfl⟩
theorem is_no (op : Int) (w : World) (h : op < 1 ∨ 82 < op) : Calls Tryz.prog 136 #[.int .i64 op] w fun e w' => e = .returned (.bool false) ∧ w = w' := by
  rcases h with h | h
  · have d1 : decide (1 ≤ op) = false := decide_eq_false (by omega)
    go_enter Tryz.func136, Tryz.ntmps136
    go_wp2_with fail
    go_ret
    exact ⟨rfl, rfl⟩
  · have d1 : decide (1 ≤ op) = true := decide_eq_true (by omega)
    have d2 : decide (op ≤ 82) = false := decide_eq_false (by omega)
    go_enter Tryz.func136, Tryz.ntmps136
    go_wp2_with fail
    go_ret
    exact ⟨by simp [d1, d2], rfl⟩
theorem opN_out (op : Int) (h : ¬ (1 ≤ op ∧ op ≤ 82)) : opN op = [] := by unfold opN opR; rw [if_neg h]
theorem name_any (op : Int) (w : World) (hn : NT w) : Calls Tryz.prog 139 #[.int .i64 op] w fun e w' => e = .returned (.string ⟨(opN op).toArray⟩) ∧ w = w' := by
  by_cases h : 1 ≤ op ∧ op ≤ 82
  · have hc := hn.1.2 (op.toNat - 1) (by omega)
    rw [show (((op.toNat - 1 : Nat) : Int) + 1) = op by omega] at hc
    obtain ⟨g1, g2⟩ := h
    clear hn
    go_enter Tryz.func139, Tryz.ntmps139
    go_wp2_with (go_at_call 136; refine (is_yes _ _ g1 g2).mono ?_; rintro e w' ⟨rfl, rfl⟩)
    go_ret
    exact ⟨rfl, rfl⟩
  · have HB : Hid (op < 1 ∨ 82 < op) := Lib.hid (by omega)
    have ho := opN_out op h
    clear h hn
    go_enter Tryz.func139, Tryz.ntmps139
    go_wp2_with (go_at_call 136; refine (is_no _ _ HB.out).mono ?_; rintro e w' ⟨rfl, rfl⟩)
    go_ret
    exact ⟨by rw [ho]; rfl, rfl⟩
/-- an operation's kind; 0: there is none -/
def kindO (op : Int) : Int := if 1 ≤ op ∧ op ≤ 82 then kindZ (bareN op) else 0
theorem kind_any (op : Int) (w : World) (hn : NT w) : Calls Tryz.prog 89 #[.int .i64 op] w fun e w' => e = .returned (.int .i64 (kindO op)) ∧ Below w.heap.size w w' := by
  unfold kindO
  by_cases h : 1 ≤ op ∧ op ≤ 82
  · have hc := hn.2.2 (op.toNat - 1) (by omega)
    rw [show (((op.toNat - 1 : Nat) : Int) + 1) = op by omega] at hc
    rw [if_pos h]
    obtain ⟨g1, g2⟩ := h
    have hk := fun w => kindOf_any (bareN op) w (knows op g1 g2).2.1
    generalize kindZ (bareN op) = k at hk ⊢
    generalize bareN op = b at hk hc
    have HK := Lib.hid hk
    clear hn hk
    go_enter Tryz.func89, Tryz.ntmps89
    go_wp2_with (go_at_call 136; refine (is_yes _ _ g1 g2).mono ?_; rintro e w' ⟨rfl, rfl⟩)
    refine (HK.out _).mono ?_; rintro e w1 ⟨rfl, q1⟩
    go_wp2_with fail
    go_ret
    exact ⟨rfl, q1⟩
  · have HB : Hid (op < 1 ∨ 82 < op) := Lib.hid (by omega)
    rw [if_neg h]
    clear h hn
    go_enter Tryz.func89, Tryz.ntmps89
    go_wp2_with (go_at_call 136; refine (is_no _ _ HB.out).mono ?_; rintro e w' ⟨rfl, rfl⟩)
    go_ret
    exact ⟨rfl, Below.refl _ _⟩
/-- may this be an instruction? its number, and the error -/
def rightB (op rd rs1 rs2 n : Int) : Bool := decide (1 ≤ op ∧ op ≤ 82) && (regsB (kindZ (bareN op)) rd rs1 rs2 && immB (kindZ (bareN op)) (shiftZ (bareN op)) n)
def encR (op rd rs1 rs2 n : Int) : Nat := if rightB op rd rs1 rs2 n = true then encB (bareN op) rd.toNat rs1.toNat rs2.toNat n else 0
def encE (op rd rs1 rs2 n : Int) : Int := if rightB op rd rs1 rs2 n = true then 0 else 1
theorem regs_in (k rd rs1 rs2 : Int) (h : regsB k rd rs1 rs2 = true) : (0 ≤ rd ∧ rd < 32) ∧ (0 ≤ rs1 ∧ rs1 < 32) ∧ 0 ≤ rs2 ∧ rs2 < 32 := by
  have hf : ∀ n t, fitB n t = true → 0 ≤ n ∧ n < 32 := by
    intro n t h
    unfold fitB at h
    split at h
    · rename_i h0; rw [beq_iff_eq] at h0; omega
    · split at h
      · split at h
        · rename_i h1; rw [decide_eq_true_iff] at h h1; omega
        · exact absurd h (by decide)
      · exact absurd h (by decide)
  unfold regsB at h
  split at h
  · split at h
    · rename_i h1 h2; exact ⟨hf _ _ h1, hf _ _ h2, hf _ _ h⟩
    · exact absurd h (by decide)
  · exact absurd h (by decide)
end Go.Proofs.YtegoddghfjfibaaGreatDoor.Is

namespace Go.Proofs.YtegoddghfjfibaaGreatDoor.Al
set_option linter.unusedVariables false
set_option linter.unusedSimpArgs false
open Go.Joins Go.ChangeShapes Go.WideShapes Go.ChangeAt Go.RowKit
open Go.Proofs.YtegoddghfjfibaaGreatDoor.Is (NT name_any)

def holdZ (s : List UInt8) (a b : Int) : Bool × Bool := if (s == [98, 101, 113]) = true then ((a == b), true) else if (s == [98, 110, 101]) = true then ((a != b), true) else if (s == [98, 108, 116]) = true then (decide (wrap64 a < wrap64 b), true) else if (s == [98, 103, 101]) = true then (decide (wrap64 b ≤ wrap64 a), true) else if (s == [98, 108, 116, 117]) = true then (decide (a < b), true) else if (s == [98, 103, 101, 117]) = true then (decide (b ≤ a), true) else (false, false)
def widthZ (s : List UInt8) : Int × Bool × Bool := if (s == [108, 98]) = true then (1, true, true) else if (s == [108, 104]) = true then (2, true, true) else if (s == [108, 119]) = true then (4, true, true) else if (s == [108, 100]) = true then (8, true, true) else if (s == [108, 98, 117]) = true then (1, false, true) else if (s == [115, 98]) = true then (1, false, true) else if (s == [108, 104, 117]) = true then (2, false, true) else if (s == [115, 104]) = true then (2, false, true) else if (s == [108, 119, 117]) = true then (4, false, true) else if (s == [115, 119]) = true then (4, false, true) else if (s == [115, 100]) = true then (8, false, true) else (0, false, false)
theorem holds_any (op : Int) (a b : Int) (w : World) (hn : NT w) (h0 : 0 ≤ a) (h1 : a < 18446744073709551616) (h2 : 0 ≤ b) (h3 : b < 18446744073709551616) :
    Calls Tryz.prog 95 #[.int .i64 op, .int .u64 a, .int .u64 b] w fun e w' => e = .returned (.tuple #[.bool (holdZ (opN op) a b).1, .bool (holdZ (opN op) a b).2]) ∧ w = w' := by
  have hname := name_any op w hn
  generalize opN op = s at hname ⊢
  clear hn
  have HN := Lib.hid hname
  clear hname
  go_enter Tryz.func95, Tryz.ntmps95
  go_wp2_with fail
  refine HN.out.mono ?_; rintro e w' ⟨rfl, rfl⟩
  clear HN
  go_wp2_with fail
  all_goals exact bodyPost_ret (v := .tuple #[.bool (holdZ s a b).1, .bool (holdZ s a b).2]) (by simp [results, Tryz.results95, go_sem, holdZ, *]) rfl ⟨rfl, rfl⟩
theorem width_any (op : Int) (w : World) (hn : NT w) :
    Calls Tryz.prog 151 #[.int .i64 op] w fun e w' => e = .returned (.tuple #[.int .i64 (widthZ (opN op)).1, .bool (widthZ (opN op)).2.1, .bool (widthZ (opN op)).2.2]) ∧ w = w' := by
  have hname := name_any op w hn
  generalize opN op = s at hname ⊢
  clear hn
  have HN := Lib.hid hname
  clear hname
  go_enter Tryz.func151, Tryz.ntmps151
  go_wp2_with fail
  refine HN.out.mono ?_; rintro e w' ⟨rfl, rfl⟩
  clear HN
  go_wp2_with fail
  all_goals (refine bodyPost_ret (v := .tuple #[.int .i64 (widthZ s).1, .bool (widthZ s).2.1, .bool (widthZ s).2.2]) ?_ rfl ⟨rfl, rfl⟩)
  all_goals first
    | (simp [results, Tryz.results151, go_sem, widthZ, *]; done)
    | (exfalso; simp_all; done)
theorem reckon_out (op a b : Int) (w : World) (h : op < 1 ∨ 41 < op) :
    Calls Tryz.prog 138 #[.int .i64 op, .int .u64 a, .int .u64 b] w fun e w' => e = .returned (.tuple #[.int .u64 0, .bool false]) ∧ Below w.heap.size w w' := by
  have H := Lib.hid h
  clear h
  go_enter Tryz.func138, Tryz.ntmps138
  go_wp2_with fail
  refine (rules_any _).mono ?_; rintro e w1 ⟨rfl, hb⟩
  have hz : rulesC.size = 123 := by kernel_rfl
  have hst := run_storeCells_new (P := Tryz.prog) w1 197 Tryz.zeroCells197 rulesC (by kernel_rfl) (by kernel_rfl) (by kernel_rfl)
  generalize rulesC = R at *
  have HB0 := Lib.hid (bAlloc hb (.cells R 197))
  clear hb
  rcases H.out with h | h
  · have d1 : decide (op < 1) = true := decide_eq_true h
    clear h
    go_wp2_with fail
    exact bodyPost_ret (v := .tuple #[.int .u64 0, .bool false]) (by simp [results, Tryz.results138, go_sem]) rfl ⟨rfl, HB0.out⟩
  · have d1 : decide (op < 1) = false := decide_eq_false (by omega)
    have d2 : decide (41 < op) = true := decide_eq_true h
    clear h
    go_wp2_with fail
    exact bodyPost_ret (v := .tuple #[.int .u64 0, .bool false]) (by simp [results, Tryz.results138, go_sem]) rfl ⟨rfl, HB0.out⟩

end Go.Proofs.YtegoddghfjfibaaGreatDoor.Al

namespace Go.Proofs.YtegoddghfjfibaaGreatDoor.Ce
set_option linter.unusedVariables false
set_option linter.unusedSimpArgs false
open Go Go.RowKit

structure CapV where
  base : Int
  top : Int
  at_ : Int
  perms : Int
  ty : Int
  tag : Bool

def CapV.clear (c : CapV) : CapV := ⟨c.base, c.top, c.at_, c.perms, c.ty, false⟩
def CapV.sealed (c : CapV) : Bool := decide (0 ≤ c.ty)
def CapV.live (c : CapV) : Bool := c.tag && !c.sealed
def moveC (c : CapV) (to : Int) : CapV := ⟨c.base, c.top, to, c.perms, c.ty, c.live⟩
def hasC (c : CapV) (n : Int) : Bool := decide (c.base ≤ c.at_) && (decide (n ≤ 18446744073709551615 - c.at_) && decide (c.at_ + n ≤ c.top))
def boundC (c : CapV) (n : Int) : CapV := if c.live && hasC c n then ⟨c.at_, c.at_ + n, c.at_, c.perms, c.ty, true⟩ else c.clear
def andC (c : CapV) (perms : Int) : CapV := ⟨c.base, c.top, c.at_, bits .and .i64 c.perms perms, c.ty, c.live⟩
def keyC (c : CapV) (perm : Int) : Bool := c.tag && (!c.sealed && (bits .and .i64 c.perms perm == perm && (decide (c.base ≤ c.at_) && decide (c.at_ < c.top))))
def sealC (c k : CapV) : CapV := if c.live && (keyC k 32 && decide (k.at_ < 64)) then ⟨c.base, c.top, c.at_, c.perms, k.at_, true⟩ else c.clear
def unsealC (c k : CapV) : CapV := if c.tag && (c.sealed && (keyC k 64 && k.at_ == IntKind.u64.wrap c.ty)) then ⟨c.base, c.top, c.at_, c.perms, -1, true⟩ else c.clear
def capCheckC (c : CapV) (n perms : Int) : Int := if c.tag then (if c.sealed then 21 else if bits .and .i64 c.perms perms == perms then (if hasC c n then 0 else 23) else 22) else 20
def withinC (a b : CapV) : Bool := if a.tag then (if decide (a.base < a.top) && (decide (a.base < b.base) || decide (b.top < a.top)) then false else if bits .and .i64 a.perms b.perms == a.perms then a.ty == b.ty && b.tag else false) else true
end Go.Proofs.YtegoddghfjfibaaGreatDoor.Ce

