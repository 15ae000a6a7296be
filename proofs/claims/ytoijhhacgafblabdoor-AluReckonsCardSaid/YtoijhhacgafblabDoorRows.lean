/-
  NARROWER THAN 'FOR EVERY INPUT', by the rows' own cells (each row's printed sentence says how): AluReckons: laid · AluTells: laid · AluDivides: laid · AluShort: laid · AluConditions: laid · AluMoves: laid · AluBits: laid.
  DERIVED. THE GIVEN ROWS OF THIS SEAT. 7 by the template 'for every input the law returns true; each argument reads behind the call as it read before'; 0 by the template 'total and deterministic' (their statements: YtoijhhacgafblabDoorTotals.lean).
  GIVEN WITH THE SEED: the statements are not yours to turn. If you find one false, say at which input.
  Laid BY PROGRAM, IN A SANDBOX (cutbox-rows.mjs): the forced cells as the released guide's own fill.sh prints them over the translation 28e68ec0f19f6be0… (all of the seat's roots in one cut). By AI agents, Wed Nov 11 2026. No macro, syntax, notation, axiom, sorry.
-/
import Derived.Test.YtoijhhacgafblabDoorChecked
import GoSem.Claim
import GoSem.ClaimJoined
import GoSem.ClaimMapViews
import Derived.JoinedTies
import Derived.KernelRfl
namespace Go.Proofs.YtoijhhacgafblabDoor
/- THE CELL 'sum', in the pinned program and in every row, IS THE sha256 OF THE DUMP (.gsa) THAT YtoijhhacgafblabDoorProg.lean LOADS. Nothing in Lean hashes anything: it is a label: what it is worth is what the hold of that sum in a sandbox is worth. -/
noncomputable def Tryd.pinned : Pinned := { name := "ytoijhhacgafblabdoor", sum := "28e68ec0f19f6be0f3a792f64661c7e5b388baa08cca3b60c36b3c887d0ed5f2", checked := Tryd.checked }
namespace Rows
def none {H : Type} : Left H := { results := [], args := [] }

/- WHAT THE LISTED PACKAGE-LEVEL VARIABLES READ AS WHEN THE CALL BEGINS. Each datum BY PROGRAM (the guide's laid-datum.mjs) off the statement by which the dump's own 'gosem.cut.vars' lays the variable. In a bare row this is a premise. The card (YtoijhhacgafblabDoorCards.lean) ties it to the program's text. -/
def laid_curtilage_isa_names {H : Type} : DataW H := .agg [.lit (.string [97, 100, 100]), .lit (.string [115, 117, 98]), .lit (.string [115, 108, 108]), .lit (.string [115, 108, 116]), .lit (.string [115, 108, 116, 117]), .lit (.string [120, 111, 114]), .lit (.string [115, 114, 108]), .lit (.string [115, 114, 97]), .lit (.string [111, 114]), .lit (.string [97, 110, 100]), .lit (.string [109, 117, 108]), .lit (.string [109, 117, 108, 104]), .lit (.string [109, 117, 108, 104, 115, 117]), .lit (.string [109, 117, 108, 104, 117]), .lit (.string [100, 105, 118]), .lit (.string [100, 105, 118, 117]), .lit (.string [114, 101, 109]), .lit (.string [114, 101, 109, 117]), .lit (.string [97, 100, 100, 119]), .lit (.string [115, 117, 98, 119]), .lit (.string [115, 108, 108, 119]), .lit (.string [115, 114, 108, 119]), .lit (.string [115, 114, 97, 119]), .lit (.string [109, 117, 108, 119]), .lit (.string [100, 105, 118, 119]), .lit (.string [100, 105, 118, 117, 119]), .lit (.string [114, 101, 109, 119]), .lit (.string [114, 101, 109, 117, 119]), .lit (.string [97, 100, 100, 105]), .lit (.string [115, 108, 116, 105]), .lit (.string [115, 108, 116, 105, 117]), .lit (.string [120, 111, 114, 105]), .lit (.string [111, 114, 105]), .lit (.string [97, 110, 100, 105]), .lit (.string [115, 108, 108, 105]), .lit (.string [115, 114, 108, 105]), .lit (.string [115, 114, 97, 105]), .lit (.string [97, 100, 100, 105, 119]), .lit (.string [115, 108, 108, 105, 119]), .lit (.string [115, 114, 108, 105, 119]), .lit (.string [115, 114, 97, 105, 119]), .lit (.string [108, 98]), .lit (.string [108, 104]), .lit (.string [108, 119]), .lit (.string [108, 100]), .lit (.string [108, 98, 117]), .lit (.string [108, 104, 117]), .lit (.string [108, 119, 117]), .lit (.string [99, 108, 99]), .lit (.string [115, 98]), .lit (.string [115, 104]), .lit (.string [115, 119]), .lit (.string [115, 100]), .lit (.string [99, 115, 99]), .lit (.string [98, 101, 113]), .lit (.string [98, 110, 101]), .lit (.string [98, 108, 116]), .lit (.string [98, 103, 101]), .lit (.string [98, 108, 116, 117]), .lit (.string [98, 103, 101, 117]), .lit (.string [108, 117, 105]), .lit (.string [97, 117, 105, 112, 99, 99]), .lit (.string [99, 106, 97, 108]), .lit (.string [99, 106, 97, 108, 114]), .lit (.string [101, 99, 97, 108, 108]), .lit (.string [101, 98, 114, 101, 97, 107]), .lit (.string [99, 115, 101, 116, 98, 111, 117, 110, 100, 115]), .lit (.string [99, 97, 110, 100, 112, 101, 114, 109]), .lit (.string [99, 115, 101, 97, 108]), .lit (.string [99, 117, 110, 115, 101, 97, 108]), .lit (.string [99, 115, 101, 116, 97, 100, 100, 114]), .lit (.string [99, 105, 110, 99, 97, 100, 100, 114]), .lit (.string [99, 116, 101, 115, 116, 115, 117, 98, 115, 101, 116]), .lit (.string [99, 105, 110, 118, 111, 107, 101]), .lit (.string [99, 103, 101, 116, 112, 101, 114, 109]), .lit (.string [99, 103, 101, 116, 116, 121, 112, 101]), .lit (.string [99, 103, 101, 116, 98, 97, 115, 101]), .lit (.string [99, 103, 101, 116, 108, 101, 110]), .lit (.string [99, 103, 101, 116, 116, 97, 103]), .lit (.string [99, 109, 111, 118, 101]), .lit (.string [99, 99, 108, 101, 97, 114, 116, 97, 103]), .lit (.string [99, 103, 101, 116, 97, 100, 100, 114])]

/-- 'curtilagelaw06.AluReckons': WHATEVER THE INPUT: true; the input reads as it did. -/
def aluReckonsSpec : ChangeSpec := { name := "aluReckons", fn := fun _ => fun
  | [d1, d2, d3] => { results := [.lit (.bool true)], args := [d1, d2, d3] }
  | _ => none }
def aluReckonsRow : OpenClaim := { program := "ytoijhhacgafblabdoor", sum := "28e68ec0f19f6be0f3a792f64661c7e5b388baa08cca3b60c36b3c887d0ed5f2", func := "curtilage/curtilagelaw06.AluReckons", spec := "aluReckons", unfollowed := true, recurses := true, named := ["curtilage/isa.names"], apart := false, laid := [("curtilage/isa.names", laid_curtilage_isa_names)] }
def AluReckonsSaid : Prop := aluReckonsRow.holds Tryd.pinned (OpenSpec.ofChange aluReckonsSpec)

/-- ITS FALSE NEIGHBOUR: 'it returns false'. Refute it at one input. -/
def aluReckonsWrong : ChangeSpec := { name := "aluReckons", fn := fun _ => fun
  | [d1, d2, d3] => { results := [.lit (.bool false)], args := [d1, d2, d3] }
  | _ => none }
def AluReckonsWrongFalsely : Prop := aluReckonsRow.holds Tryd.pinned (OpenSpec.ofChange aluReckonsWrong)

/-- 'curtilagelaw06.AluTells': WHATEVER THE INPUT: true; the input reads as it did. -/
def aluTellsSpec : ChangeSpec := { name := "aluTells", fn := fun _ => fun
  | [d1, d2, d3] => { results := [.lit (.bool true)], args := [d1, d2, d3] }
  | _ => none }
def aluTellsRow : OpenClaim := { program := "ytoijhhacgafblabdoor", sum := "28e68ec0f19f6be0f3a792f64661c7e5b388baa08cca3b60c36b3c887d0ed5f2", func := "curtilage/curtilagelaw06.AluTells", spec := "aluTells", unfollowed := true, recurses := true, named := ["curtilage/isa.names"], apart := false, laid := [("curtilage/isa.names", laid_curtilage_isa_names)] }
def AluTellsSaid : Prop := aluTellsRow.holds Tryd.pinned (OpenSpec.ofChange aluTellsSpec)

/-- ITS FALSE NEIGHBOUR: 'it returns false'. Refute it at one input. -/
def aluTellsWrong : ChangeSpec := { name := "aluTells", fn := fun _ => fun
  | [d1, d2, d3] => { results := [.lit (.bool false)], args := [d1, d2, d3] }
  | _ => none }
def AluTellsWrongFalsely : Prop := aluTellsRow.holds Tryd.pinned (OpenSpec.ofChange aluTellsWrong)

/-- 'curtilagelaw06.AluDivides': WHATEVER THE INPUT: true; the input reads as it did. -/
def aluDividesSpec : ChangeSpec := { name := "aluDivides", fn := fun _ => fun
  | [d1, d2] => { results := [.lit (.bool true)], args := [d1, d2] }
  | _ => none }
def aluDividesRow : OpenClaim := { program := "ytoijhhacgafblabdoor", sum := "28e68ec0f19f6be0f3a792f64661c7e5b388baa08cca3b60c36b3c887d0ed5f2", func := "curtilage/curtilagelaw06.AluDivides", spec := "aluDivides", unfollowed := true, recurses := true, named := ["curtilage/isa.names"], apart := false, laid := [("curtilage/isa.names", laid_curtilage_isa_names)] }
def AluDividesSaid : Prop := aluDividesRow.holds Tryd.pinned (OpenSpec.ofChange aluDividesSpec)

/-- ITS FALSE NEIGHBOUR: 'it returns false'. Refute it at one input. -/
def aluDividesWrong : ChangeSpec := { name := "aluDivides", fn := fun _ => fun
  | [d1, d2] => { results := [.lit (.bool false)], args := [d1, d2] }
  | _ => none }
def AluDividesWrongFalsely : Prop := aluDividesRow.holds Tryd.pinned (OpenSpec.ofChange aluDividesWrong)

/-- 'curtilagelaw06.AluShort': WHATEVER THE INPUT: true; the input reads as it did. -/
def aluShortSpec : ChangeSpec := { name := "aluShort", fn := fun _ => fun
  | [d1, d2] => { results := [.lit (.bool true)], args := [d1, d2] }
  | _ => none }
def aluShortRow : OpenClaim := { program := "ytoijhhacgafblabdoor", sum := "28e68ec0f19f6be0f3a792f64661c7e5b388baa08cca3b60c36b3c887d0ed5f2", func := "curtilage/curtilagelaw06.AluShort", spec := "aluShort", unfollowed := true, recurses := true, named := ["curtilage/isa.names"], apart := false, laid := [("curtilage/isa.names", laid_curtilage_isa_names)] }
def AluShortSaid : Prop := aluShortRow.holds Tryd.pinned (OpenSpec.ofChange aluShortSpec)

/-- ITS FALSE NEIGHBOUR: 'it returns false'. Refute it at one input. -/
def aluShortWrong : ChangeSpec := { name := "aluShort", fn := fun _ => fun
  | [d1, d2] => { results := [.lit (.bool false)], args := [d1, d2] }
  | _ => none }
def AluShortWrongFalsely : Prop := aluShortRow.holds Tryd.pinned (OpenSpec.ofChange aluShortWrong)

/-- 'curtilagelaw06.AluConditions': WHATEVER THE INPUT: true; the input reads as it did. -/
def aluConditionsSpec : ChangeSpec := { name := "aluConditions", fn := fun _ => fun
  | [d1, d2] => { results := [.lit (.bool true)], args := [d1, d2] }
  | _ => none }
def aluConditionsRow : OpenClaim := { program := "ytoijhhacgafblabdoor", sum := "28e68ec0f19f6be0f3a792f64661c7e5b388baa08cca3b60c36b3c887d0ed5f2", func := "curtilage/curtilagelaw06.AluConditions", spec := "aluConditions", unfollowed := true, recurses := true, named := ["curtilage/isa.names"], apart := false, laid := [("curtilage/isa.names", laid_curtilage_isa_names)] }
def AluConditionsSaid : Prop := aluConditionsRow.holds Tryd.pinned (OpenSpec.ofChange aluConditionsSpec)

/-- ITS FALSE NEIGHBOUR: 'it returns false'. Refute it at one input. -/
def aluConditionsWrong : ChangeSpec := { name := "aluConditions", fn := fun _ => fun
  | [d1, d2] => { results := [.lit (.bool false)], args := [d1, d2] }
  | _ => none }
def AluConditionsWrongFalsely : Prop := aluConditionsRow.holds Tryd.pinned (OpenSpec.ofChange aluConditionsWrong)

/-- 'curtilagelaw06.AluMoves': WHATEVER THE INPUT: true; the input reads as it did. -/
def aluMovesSpec : ChangeSpec := { name := "aluMoves", fn := fun _ => fun
  | [d1, d2] => { results := [.lit (.bool true)], args := [d1, d2] }
  | _ => none }
def aluMovesRow : OpenClaim := { program := "ytoijhhacgafblabdoor", sum := "28e68ec0f19f6be0f3a792f64661c7e5b388baa08cca3b60c36b3c887d0ed5f2", func := "curtilage/curtilagelaw06.AluMoves", spec := "aluMoves", unfollowed := true, recurses := true, named := ["curtilage/isa.names"], apart := false, laid := [("curtilage/isa.names", laid_curtilage_isa_names)] }
def AluMovesSaid : Prop := aluMovesRow.holds Tryd.pinned (OpenSpec.ofChange aluMovesSpec)

/-- ITS FALSE NEIGHBOUR: 'it returns false'. Refute it at one input. -/
def aluMovesWrong : ChangeSpec := { name := "aluMoves", fn := fun _ => fun
  | [d1, d2] => { results := [.lit (.bool false)], args := [d1, d2] }
  | _ => none }
def AluMovesWrongFalsely : Prop := aluMovesRow.holds Tryd.pinned (OpenSpec.ofChange aluMovesWrong)

/-- 'curtilagelaw06.AluBits': WHATEVER THE INPUT: true; the input reads as it did. -/
def aluBitsSpec : ChangeSpec := { name := "aluBits", fn := fun _ => fun
  | [d1, d2] => { results := [.lit (.bool true)], args := [d1, d2] }
  | _ => none }
def aluBitsRow : OpenClaim := { program := "ytoijhhacgafblabdoor", sum := "28e68ec0f19f6be0f3a792f64661c7e5b388baa08cca3b60c36b3c887d0ed5f2", func := "curtilage/curtilagelaw06.AluBits", spec := "aluBits", unfollowed := true, recurses := true, named := ["curtilage/isa.names"], apart := false, laid := [("curtilage/isa.names", laid_curtilage_isa_names)] }
def AluBitsSaid : Prop := aluBitsRow.holds Tryd.pinned (OpenSpec.ofChange aluBitsSpec)

/-- ITS FALSE NEIGHBOUR: 'it returns false'. Refute it at one input. -/
def aluBitsWrong : ChangeSpec := { name := "aluBits", fn := fun _ => fun
  | [d1, d2] => { results := [.lit (.bool false)], args := [d1, d2] }
  | _ => none }
def AluBitsWrongFalsely : Prop := aluBitsRow.holds Tryd.pinned (OpenSpec.ofChange aluBitsWrong)

/- THE SECOND FORM. 'bulk': how many values and letters a reading holds, each counted each time it is reached (what is shared counts as often as it is met; a slice's spare places count too). A statement '..UptoSaid' is the law's where the arguments, and the package variables that the reading takes, are together of bulk at most 1048576: NARROWER than '..Said'. Prove '..Said' where nothing that the law and all that it calls make is longer than what came in: it says more and counts as full. Else prove '..UptoSaid'. A law counts once. -/
mutual
def uptoBulk {H : Type} : DataW H → Nat
  | .lit (.string bytes) => bytes.length + 1
  | .lit _ => 1
  | .nil => 1
  | .ptr d => uptoBulk d + 1
  | .slice elems spare => uptoBulkAll elems + uptoBulkAll spare + 1
  | .agg parts => uptoBulkAll parts + 1
  | .iface _ d => uptoBulk d + 1
  | .map entries => uptoBulkEntries entries + 1
  | .held _ => 1
def uptoBulkAll {H : Type} : List (DataW H) → Nat
  | [] => 0
  | d :: r => uptoBulk d + uptoBulkAll r
def uptoBulkEntries {H : Type} : List (Lit × DataW H) → Nat
  | [] => 0
  | x :: r => uptoBulkEntry x + uptoBulkEntries r
def uptoBulkEntry {H : Type} : Lit × DataW H → Nat
  | (.string bytes, d) => bytes.length + uptoBulk d + 1
  | (_, d) => uptoBulk d + 1
 end
def uptoSmall : (H : Type) → List (DataW H) → Bool := fun _ ds => decide (uptoBulkAll ds ≤ 1048576)
def OpenSpec.upto (s : _root_.Go.ChangeSpec) : _root_.Go.OpenSpec := { _root_.Go.OpenSpec.ofChange s with cond := some uptoSmall }

/-- 'curtilagelaw06.AluReckons', WHERE WHAT IT READS IS OF BULK AT MOST 1048576: true; the input reads as it did. -/
def aluReckonsUptoRow : OpenClaim := { program := "ytoijhhacgafblabdoor", sum := "28e68ec0f19f6be0f3a792f64661c7e5b388baa08cca3b60c36b3c887d0ed5f2", func := "curtilage/curtilagelaw06.AluReckons", spec := "aluReckons", unfollowed := true, recurses := true, named := ["curtilage/isa.names"], apart := false, laid := [("curtilage/isa.names", laid_curtilage_isa_names)], narrowed := true }
def AluReckonsUptoSaid : Prop := aluReckonsUptoRow.holds Tryd.pinned (OpenSpec.upto aluReckonsSpec)

/-- 'curtilagelaw06.AluTells', WHERE WHAT IT READS IS OF BULK AT MOST 1048576: true; the input reads as it did. -/
def aluTellsUptoRow : OpenClaim := { program := "ytoijhhacgafblabdoor", sum := "28e68ec0f19f6be0f3a792f64661c7e5b388baa08cca3b60c36b3c887d0ed5f2", func := "curtilage/curtilagelaw06.AluTells", spec := "aluTells", unfollowed := true, recurses := true, named := ["curtilage/isa.names"], apart := false, laid := [("curtilage/isa.names", laid_curtilage_isa_names)], narrowed := true }
def AluTellsUptoSaid : Prop := aluTellsUptoRow.holds Tryd.pinned (OpenSpec.upto aluTellsSpec)

/-- 'curtilagelaw06.AluDivides', WHERE WHAT IT READS IS OF BULK AT MOST 1048576: true; the input reads as it did. -/
def aluDividesUptoRow : OpenClaim := { program := "ytoijhhacgafblabdoor", sum := "28e68ec0f19f6be0f3a792f64661c7e5b388baa08cca3b60c36b3c887d0ed5f2", func := "curtilage/curtilagelaw06.AluDivides", spec := "aluDivides", unfollowed := true, recurses := true, named := ["curtilage/isa.names"], apart := false, laid := [("curtilage/isa.names", laid_curtilage_isa_names)], narrowed := true }
def AluDividesUptoSaid : Prop := aluDividesUptoRow.holds Tryd.pinned (OpenSpec.upto aluDividesSpec)

/-- 'curtilagelaw06.AluShort', WHERE WHAT IT READS IS OF BULK AT MOST 1048576: true; the input reads as it did. -/
def aluShortUptoRow : OpenClaim := { program := "ytoijhhacgafblabdoor", sum := "28e68ec0f19f6be0f3a792f64661c7e5b388baa08cca3b60c36b3c887d0ed5f2", func := "curtilage/curtilagelaw06.AluShort", spec := "aluShort", unfollowed := true, recurses := true, named := ["curtilage/isa.names"], apart := false, laid := [("curtilage/isa.names", laid_curtilage_isa_names)], narrowed := true }
def AluShortUptoSaid : Prop := aluShortUptoRow.holds Tryd.pinned (OpenSpec.upto aluShortSpec)

/-- 'curtilagelaw06.AluConditions', WHERE WHAT IT READS IS OF BULK AT MOST 1048576: true; the input reads as it did. -/
def aluConditionsUptoRow : OpenClaim := { program := "ytoijhhacgafblabdoor", sum := "28e68ec0f19f6be0f3a792f64661c7e5b388baa08cca3b60c36b3c887d0ed5f2", func := "curtilage/curtilagelaw06.AluConditions", spec := "aluConditions", unfollowed := true, recurses := true, named := ["curtilage/isa.names"], apart := false, laid := [("curtilage/isa.names", laid_curtilage_isa_names)], narrowed := true }
def AluConditionsUptoSaid : Prop := aluConditionsUptoRow.holds Tryd.pinned (OpenSpec.upto aluConditionsSpec)

/-- 'curtilagelaw06.AluMoves', WHERE WHAT IT READS IS OF BULK AT MOST 1048576: true; the input reads as it did. -/
def aluMovesUptoRow : OpenClaim := { program := "ytoijhhacgafblabdoor", sum := "28e68ec0f19f6be0f3a792f64661c7e5b388baa08cca3b60c36b3c887d0ed5f2", func := "curtilage/curtilagelaw06.AluMoves", spec := "aluMoves", unfollowed := true, recurses := true, named := ["curtilage/isa.names"], apart := false, laid := [("curtilage/isa.names", laid_curtilage_isa_names)], narrowed := true }
def AluMovesUptoSaid : Prop := aluMovesUptoRow.holds Tryd.pinned (OpenSpec.upto aluMovesSpec)

/-- 'curtilagelaw06.AluBits', WHERE WHAT IT READS IS OF BULK AT MOST 1048576: true; the input reads as it did. -/
def aluBitsUptoRow : OpenClaim := { program := "ytoijhhacgafblabdoor", sum := "28e68ec0f19f6be0f3a792f64661c7e5b388baa08cca3b60c36b3c887d0ed5f2", func := "curtilage/curtilagelaw06.AluBits", spec := "aluBits", unfollowed := true, recurses := true, named := ["curtilage/isa.names"], apart := false, laid := [("curtilage/isa.names", laid_curtilage_isa_names)], narrowed := true }
def AluBitsUptoSaid : Prop := aluBitsUptoRow.holds Tryd.pinned (OpenSpec.upto aluBitsSpec)

end Rows
end Go.Proofs.YtoijhhacgafblabDoor
