/-
  DERIVED. GIVEN WITH THE SEED: THE CARDS: each row of YtegoddghfjfibaaGreatDoorRows.lean that lists a variable, with what it lists TIED to the program's text (the seventh form; the later family's looks); each row that meets fmt, with fmt's text TOLD by the authors' own Lean function (tested against real Go, not proved from fmt's source: count such statements apart). THE CARD IS WHAT COUNTS. Prove the row's statement (the work); the ties are given (YtegoddghfjfibaaGreatDoorTie.lean); close each card by the builder's one call (the guide's Derived/Test/ToyasCard.lean, 'card_holds'). Laid BY PROGRAM, IN A SANDBOX (cutbox-door.mjs). By AI agents, Wed Nov 11 2026. No macro, syntax, notation, axiom, sorry.
-/
import Derived.Test.YtegoddghfjfibaaGreatDoorRows
import GoSem.ClaimSeven
namespace Go.Proofs.YtegoddghfjfibaaGreatDoor
namespace Rows

/-- THE TIED CARD OF 'curtilagelaw07.CpuSteps'. -/
def cpuStepsCard : Claim7 := { stood := { row := cpuStepsRow, standIns := [], harness := (true, "47f6a3138d31bd11e29765e89d3dcc9db562c3614af04a05ac18037f151379c2"), looks := false }, kinds := [], alts := [], laidByText := true, laidKinds := [.data, .data, .data, .data, .data], laidTests := true, laidLooks := .later }
def CpuStepsCardSaid : Prop := Claim7.holds Tryz.pinned (.plain (OpenSpec.ofChange cpuStepsSpec)) cpuStepsCard

/-- THE TIED CARD OF 'curtilagelaw07.CpuLess'. -/
def cpuLessCard : Claim7 := { stood := { row := cpuLessRow, standIns := [], harness := (true, "47f6a3138d31bd11e29765e89d3dcc9db562c3614af04a05ac18037f151379c2"), looks := false }, kinds := [], alts := [], laidByText := true, laidKinds := [.data, .data], laidTests := true, laidLooks := .later }
def CpuLessCardSaid : Prop := Claim7.holds Tryz.pinned (.plain (OpenSpec.ofChange cpuLessSpec)) cpuLessCard

/-- THE TIED CARD OF 'curtilagelaw07.CpuSpared'. -/
def cpuSparedCard : Claim7 := { stood := { row := cpuSparedRow, standIns := [], harness := (true, "47f6a3138d31bd11e29765e89d3dcc9db562c3614af04a05ac18037f151379c2"), looks := false }, kinds := [], alts := [], laidByText := true, laidKinds := [.data, .data], laidTests := true, laidLooks := .later }
def CpuSparedCardSaid : Prop := Claim7.holds Tryz.pinned (.plain (OpenSpec.ofChange cpuSparedSpec)) cpuSparedCard

/-- THE TIED CARD OF 'curtilagelaw07.CpuOutside'. -/
def cpuOutsideCard : Claim7 := { stood := { row := cpuOutsideRow, standIns := [], harness := (true, "47f6a3138d31bd11e29765e89d3dcc9db562c3614af04a05ac18037f151379c2"), looks := false }, kinds := [], alts := [], laidByText := true, laidKinds := [.data, .data], laidTests := true, laidLooks := .later }
def CpuOutsideCardSaid : Prop := Claim7.holds Tryz.pinned (.plain (OpenSpec.ofChange cpuOutsideSpec)) cpuOutsideCard

/-- THE TIED CARD OF 'curtilagelaw07.CpuZero'. -/
def cpuZeroCard : Claim7 := { stood := { row := cpuZeroRow, standIns := [], harness := (true, "47f6a3138d31bd11e29765e89d3dcc9db562c3614af04a05ac18037f151379c2"), looks := false }, kinds := [], alts := [], laidByText := true, laidKinds := [.data, .data], laidTests := true, laidLooks := .later }
def CpuZeroCardSaid : Prop := Claim7.holds Tryz.pinned (.plain (OpenSpec.ofChange cpuZeroSpec)) cpuZeroCard

/-- THE TIED CARD OF 'curtilagelaw07.CpuNothing'. -/
def cpuNothingCard : Claim7 := { stood := { row := cpuNothingRow, standIns := [], harness := (true, "47f6a3138d31bd11e29765e89d3dcc9db562c3614af04a05ac18037f151379c2"), looks := false }, kinds := [], alts := [], laidByText := true, laidKinds := [.data, .data], laidTests := true, laidLooks := .later }
def CpuNothingCardSaid : Prop := Claim7.holds Tryz.pinned (.plain (OpenSpec.ofChange cpuNothingSpec)) cpuNothingCard

/-- THE SECOND FORM's CARD OF 'curtilagelaw07.CpuSteps'. -/
def cpuStepsUptoCard : Claim7 := { stood := { row := cpuStepsUptoRow, standIns := [], harness := (true, "47f6a3138d31bd11e29765e89d3dcc9db562c3614af04a05ac18037f151379c2"), looks := false }, kinds := [], alts := [], laidByText := true, laidKinds := [.data, .data, .data, .data, .data], laidTests := true, laidLooks := .later }
def CpuStepsUptoCardSaid : Prop := Claim7.holds Tryz.pinned (.plain (OpenSpec.upto cpuStepsSpec)) cpuStepsUptoCard

/-- THE SECOND FORM's CARD OF 'curtilagelaw07.CpuLess'. -/
def cpuLessUptoCard : Claim7 := { stood := { row := cpuLessUptoRow, standIns := [], harness := (true, "47f6a3138d31bd11e29765e89d3dcc9db562c3614af04a05ac18037f151379c2"), looks := false }, kinds := [], alts := [], laidByText := true, laidKinds := [.data, .data], laidTests := true, laidLooks := .later }
def CpuLessUptoCardSaid : Prop := Claim7.holds Tryz.pinned (.plain (OpenSpec.upto cpuLessSpec)) cpuLessUptoCard

/-- THE SECOND FORM's CARD OF 'curtilagelaw07.CpuSpared'. -/
def cpuSparedUptoCard : Claim7 := { stood := { row := cpuSparedUptoRow, standIns := [], harness := (true, "47f6a3138d31bd11e29765e89d3dcc9db562c3614af04a05ac18037f151379c2"), looks := false }, kinds := [], alts := [], laidByText := true, laidKinds := [.data, .data], laidTests := true, laidLooks := .later }
def CpuSparedUptoCardSaid : Prop := Claim7.holds Tryz.pinned (.plain (OpenSpec.upto cpuSparedSpec)) cpuSparedUptoCard

/-- THE SECOND FORM's CARD OF 'curtilagelaw07.CpuOutside'. -/
def cpuOutsideUptoCard : Claim7 := { stood := { row := cpuOutsideUptoRow, standIns := [], harness := (true, "47f6a3138d31bd11e29765e89d3dcc9db562c3614af04a05ac18037f151379c2"), looks := false }, kinds := [], alts := [], laidByText := true, laidKinds := [.data, .data], laidTests := true, laidLooks := .later }
def CpuOutsideUptoCardSaid : Prop := Claim7.holds Tryz.pinned (.plain (OpenSpec.upto cpuOutsideSpec)) cpuOutsideUptoCard

/-- THE SECOND FORM's CARD OF 'curtilagelaw07.CpuZero'. -/
def cpuZeroUptoCard : Claim7 := { stood := { row := cpuZeroUptoRow, standIns := [], harness := (true, "47f6a3138d31bd11e29765e89d3dcc9db562c3614af04a05ac18037f151379c2"), looks := false }, kinds := [], alts := [], laidByText := true, laidKinds := [.data, .data], laidTests := true, laidLooks := .later }
def CpuZeroUptoCardSaid : Prop := Claim7.holds Tryz.pinned (.plain (OpenSpec.upto cpuZeroSpec)) cpuZeroUptoCard

/-- THE SECOND FORM's CARD OF 'curtilagelaw07.CpuNothing'. -/
def cpuNothingUptoCard : Claim7 := { stood := { row := cpuNothingUptoRow, standIns := [], harness := (true, "47f6a3138d31bd11e29765e89d3dcc9db562c3614af04a05ac18037f151379c2"), looks := false }, kinds := [], alts := [], laidByText := true, laidKinds := [.data, .data], laidTests := true, laidLooks := .later }
def CpuNothingUptoCardSaid : Prop := Claim7.holds Tryz.pinned (.plain (OpenSpec.upto cpuNothingSpec)) cpuNothingUptoCard
end Rows
end Go.Proofs.YtegoddghfjfibaaGreatDoor
