/-
  DERIVED. GIVEN WITH THE SEED: THE CARDS: each row of YtoijhhacgafblabDoorRows.lean that lists a variable, with what it lists TIED to the program's text (the seventh form; the later family's looks); each row that meets fmt, with fmt's text TOLD by the authors' own Lean function (tested against real Go, not proved from fmt's source: count such statements apart). THE CARD IS WHAT COUNTS. Prove the row's statement (the work); the ties are given (YtoijhhacgafblabDoorTie.lean); close each card by the builder's one call (the guide's Derived/Test/ToyasCard.lean, 'card_holds'). Laid BY PROGRAM, IN A SANDBOX (cutbox-door.mjs). By AI agents, Wed Nov 11 2026. No macro, syntax, notation, axiom, sorry.
-/
import Derived.Test.YtoijhhacgafblabDoorRows
import GoSem.ClaimSeven
namespace Go.Proofs.YtoijhhacgafblabDoor
namespace Rows

/-- THE TIED CARD OF 'curtilagelaw06.AluReckons'. -/
def aluReckonsCard : Claim7 := { stood := { row := aluReckonsRow, standIns := [], harness := (true, "6d09e2504d8467539eb80728598c835061222641162905315f324b85704a964b"), looks := false }, kinds := [], alts := [], laidByText := true, laidKinds := [.data], laidTests := true, laidLooks := .later }
def AluReckonsCardSaid : Prop := Claim7.holds Tryd.pinned (.plain (OpenSpec.ofChange aluReckonsSpec)) aluReckonsCard

/-- THE TIED CARD OF 'curtilagelaw06.AluTells'. -/
def aluTellsCard : Claim7 := { stood := { row := aluTellsRow, standIns := [], harness := (true, "6d09e2504d8467539eb80728598c835061222641162905315f324b85704a964b"), looks := false }, kinds := [], alts := [], laidByText := true, laidKinds := [.data], laidTests := true, laidLooks := .later }
def AluTellsCardSaid : Prop := Claim7.holds Tryd.pinned (.plain (OpenSpec.ofChange aluTellsSpec)) aluTellsCard

/-- THE TIED CARD OF 'curtilagelaw06.AluDivides'. -/
def aluDividesCard : Claim7 := { stood := { row := aluDividesRow, standIns := [], harness := (true, "6d09e2504d8467539eb80728598c835061222641162905315f324b85704a964b"), looks := false }, kinds := [], alts := [], laidByText := true, laidKinds := [.data], laidTests := true, laidLooks := .later }
def AluDividesCardSaid : Prop := Claim7.holds Tryd.pinned (.plain (OpenSpec.ofChange aluDividesSpec)) aluDividesCard

/-- THE TIED CARD OF 'curtilagelaw06.AluShort'. -/
def aluShortCard : Claim7 := { stood := { row := aluShortRow, standIns := [], harness := (true, "6d09e2504d8467539eb80728598c835061222641162905315f324b85704a964b"), looks := false }, kinds := [], alts := [], laidByText := true, laidKinds := [.data], laidTests := true, laidLooks := .later }
def AluShortCardSaid : Prop := Claim7.holds Tryd.pinned (.plain (OpenSpec.ofChange aluShortSpec)) aluShortCard

/-- THE TIED CARD OF 'curtilagelaw06.AluConditions'. -/
def aluConditionsCard : Claim7 := { stood := { row := aluConditionsRow, standIns := [], harness := (true, "6d09e2504d8467539eb80728598c835061222641162905315f324b85704a964b"), looks := false }, kinds := [], alts := [], laidByText := true, laidKinds := [.data], laidTests := true, laidLooks := .later }
def AluConditionsCardSaid : Prop := Claim7.holds Tryd.pinned (.plain (OpenSpec.ofChange aluConditionsSpec)) aluConditionsCard

/-- THE TIED CARD OF 'curtilagelaw06.AluMoves'. -/
def aluMovesCard : Claim7 := { stood := { row := aluMovesRow, standIns := [], harness := (true, "6d09e2504d8467539eb80728598c835061222641162905315f324b85704a964b"), looks := false }, kinds := [], alts := [], laidByText := true, laidKinds := [.data], laidTests := true, laidLooks := .later }
def AluMovesCardSaid : Prop := Claim7.holds Tryd.pinned (.plain (OpenSpec.ofChange aluMovesSpec)) aluMovesCard

/-- THE TIED CARD OF 'curtilagelaw06.AluBits'. -/
def aluBitsCard : Claim7 := { stood := { row := aluBitsRow, standIns := [], harness := (true, "6d09e2504d8467539eb80728598c835061222641162905315f324b85704a964b"), looks := false }, kinds := [], alts := [], laidByText := true, laidKinds := [.data], laidTests := true, laidLooks := .later }
def AluBitsCardSaid : Prop := Claim7.holds Tryd.pinned (.plain (OpenSpec.ofChange aluBitsSpec)) aluBitsCard

/-- THE SECOND FORM's CARD OF 'curtilagelaw06.AluReckons'. -/
def aluReckonsUptoCard : Claim7 := { stood := { row := aluReckonsUptoRow, standIns := [], harness := (true, "6d09e2504d8467539eb80728598c835061222641162905315f324b85704a964b"), looks := false }, kinds := [], alts := [], laidByText := true, laidKinds := [.data], laidTests := true, laidLooks := .later }
def AluReckonsUptoCardSaid : Prop := Claim7.holds Tryd.pinned (.plain (OpenSpec.upto aluReckonsSpec)) aluReckonsUptoCard

/-- THE SECOND FORM's CARD OF 'curtilagelaw06.AluTells'. -/
def aluTellsUptoCard : Claim7 := { stood := { row := aluTellsUptoRow, standIns := [], harness := (true, "6d09e2504d8467539eb80728598c835061222641162905315f324b85704a964b"), looks := false }, kinds := [], alts := [], laidByText := true, laidKinds := [.data], laidTests := true, laidLooks := .later }
def AluTellsUptoCardSaid : Prop := Claim7.holds Tryd.pinned (.plain (OpenSpec.upto aluTellsSpec)) aluTellsUptoCard

/-- THE SECOND FORM's CARD OF 'curtilagelaw06.AluDivides'. -/
def aluDividesUptoCard : Claim7 := { stood := { row := aluDividesUptoRow, standIns := [], harness := (true, "6d09e2504d8467539eb80728598c835061222641162905315f324b85704a964b"), looks := false }, kinds := [], alts := [], laidByText := true, laidKinds := [.data], laidTests := true, laidLooks := .later }
def AluDividesUptoCardSaid : Prop := Claim7.holds Tryd.pinned (.plain (OpenSpec.upto aluDividesSpec)) aluDividesUptoCard

/-- THE SECOND FORM's CARD OF 'curtilagelaw06.AluShort'. -/
def aluShortUptoCard : Claim7 := { stood := { row := aluShortUptoRow, standIns := [], harness := (true, "6d09e2504d8467539eb80728598c835061222641162905315f324b85704a964b"), looks := false }, kinds := [], alts := [], laidByText := true, laidKinds := [.data], laidTests := true, laidLooks := .later }
def AluShortUptoCardSaid : Prop := Claim7.holds Tryd.pinned (.plain (OpenSpec.upto aluShortSpec)) aluShortUptoCard

/-- THE SECOND FORM's CARD OF 'curtilagelaw06.AluConditions'. -/
def aluConditionsUptoCard : Claim7 := { stood := { row := aluConditionsUptoRow, standIns := [], harness := (true, "6d09e2504d8467539eb80728598c835061222641162905315f324b85704a964b"), looks := false }, kinds := [], alts := [], laidByText := true, laidKinds := [.data], laidTests := true, laidLooks := .later }
def AluConditionsUptoCardSaid : Prop := Claim7.holds Tryd.pinned (.plain (OpenSpec.upto aluConditionsSpec)) aluConditionsUptoCard

/-- THE SECOND FORM's CARD OF 'curtilagelaw06.AluMoves'. -/
def aluMovesUptoCard : Claim7 := { stood := { row := aluMovesUptoRow, standIns := [], harness := (true, "6d09e2504d8467539eb80728598c835061222641162905315f324b85704a964b"), looks := false }, kinds := [], alts := [], laidByText := true, laidKinds := [.data], laidTests := true, laidLooks := .later }
def AluMovesUptoCardSaid : Prop := Claim7.holds Tryd.pinned (.plain (OpenSpec.upto aluMovesSpec)) aluMovesUptoCard

/-- THE SECOND FORM's CARD OF 'curtilagelaw06.AluBits'. -/
def aluBitsUptoCard : Claim7 := { stood := { row := aluBitsUptoRow, standIns := [], harness := (true, "6d09e2504d8467539eb80728598c835061222641162905315f324b85704a964b"), looks := false }, kinds := [], alts := [], laidByText := true, laidKinds := [.data], laidTests := true, laidLooks := .later }
def AluBitsUptoCardSaid : Prop := Claim7.holds Tryd.pinned (.plain (OpenSpec.upto aluBitsSpec)) aluBitsUptoCard
end Rows
end Go.Proofs.YtoijhhacgafblabDoor
