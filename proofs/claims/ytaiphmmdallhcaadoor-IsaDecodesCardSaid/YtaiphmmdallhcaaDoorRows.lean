/-
  NARROWER THAN 'FOR EVERY INPUT', by the rows' own cells (each row's printed sentence says how): IsaDecodes: laid · IsaEncodes: laid · IsaNames: laid · IsaBack: laid · IsaAgain: laid · IsaUnlike: laid.
  DERIVED. THE GIVEN ROWS OF THIS SEAT. 6 by the template 'for every input the law returns true; each argument reads behind the call as it read before'; 0 by the template 'total and deterministic' (their statements: YtaiphmmdallhcaaDoorTotals.lean).
  GIVEN WITH THE SEED: the statements are not yours to turn. If you find one false, say at which input.
  Laid BY PROGRAM, IN A SANDBOX (cutbox-rows.mjs): the forced cells as the released guide's own fill.sh prints them over the translation 2f1420ac36bf3e01… (all of the seat's roots in one cut). By AI agents, Wed Nov 11 2026. No macro, syntax, notation, axiom, sorry.
-/
import Derived.Test.YtaiphmmdallhcaaDoorChecked
import GoSem.Claim
import GoSem.ClaimJoined
import GoSem.ClaimMapViews
import Derived.JoinedTies
import Derived.KernelRfl
namespace Go.Proofs.YtaiphmmdallhcaaDoor
/- THE CELL 'sum', in the pinned program and in every row, IS THE sha256 OF THE DUMP (.gsa) THAT YtaiphmmdallhcaaDoorProg.lean LOADS. Nothing in Lean hashes anything: it is a label: what it is worth is what the hold of that sum in a sandbox is worth. -/
noncomputable def Tryd.pinned : Pinned := { name := "ytaiphmmdallhcaadoor", sum := "2f1420ac36bf3e0117407a2046f9c8563c082961d8cfeee17dc1dab8d78c9653", checked := Tryd.checked }
namespace Rows
def none {H : Type} : Left H := { results := [], args := [] }

/- WHAT THE LISTED PACKAGE-LEVEL VARIABLES READ AS WHEN THE CALL BEGINS. Each datum BY PROGRAM (the guide's laid-datum.mjs) off the statement by which the dump's own 'gosem.cut.vars' lays the variable. In a bare row this is a premise. The card (YtaiphmmdallhcaaDoorCards.lean) ties it to the program's text. -/
def laid_curtilage_isa_names {H : Type} : DataW H := .agg [.lit (.string [97, 100, 100]), .lit (.string [115, 117, 98]), .lit (.string [115, 108, 108]), .lit (.string [115, 108, 116]), .lit (.string [115, 108, 116, 117]), .lit (.string [120, 111, 114]), .lit (.string [115, 114, 108]), .lit (.string [115, 114, 97]), .lit (.string [111, 114]), .lit (.string [97, 110, 100]), .lit (.string [109, 117, 108]), .lit (.string [109, 117, 108, 104]), .lit (.string [109, 117, 108, 104, 115, 117]), .lit (.string [109, 117, 108, 104, 117]), .lit (.string [100, 105, 118]), .lit (.string [100, 105, 118, 117]), .lit (.string [114, 101, 109]), .lit (.string [114, 101, 109, 117]), .lit (.string [97, 100, 100, 119]), .lit (.string [115, 117, 98, 119]), .lit (.string [115, 108, 108, 119]), .lit (.string [115, 114, 108, 119]), .lit (.string [115, 114, 97, 119]), .lit (.string [109, 117, 108, 119]), .lit (.string [100, 105, 118, 119]), .lit (.string [100, 105, 118, 117, 119]), .lit (.string [114, 101, 109, 119]), .lit (.string [114, 101, 109, 117, 119]), .lit (.string [97, 100, 100, 105]), .lit (.string [115, 108, 116, 105]), .lit (.string [115, 108, 116, 105, 117]), .lit (.string [120, 111, 114, 105]), .lit (.string [111, 114, 105]), .lit (.string [97, 110, 100, 105]), .lit (.string [115, 108, 108, 105]), .lit (.string [115, 114, 108, 105]), .lit (.string [115, 114, 97, 105]), .lit (.string [97, 100, 100, 105, 119]), .lit (.string [115, 108, 108, 105, 119]), .lit (.string [115, 114, 108, 105, 119]), .lit (.string [115, 114, 97, 105, 119]), .lit (.string [108, 98]), .lit (.string [108, 104]), .lit (.string [108, 119]), .lit (.string [108, 100]), .lit (.string [108, 98, 117]), .lit (.string [108, 104, 117]), .lit (.string [108, 119, 117]), .lit (.string [99, 108, 99]), .lit (.string [115, 98]), .lit (.string [115, 104]), .lit (.string [115, 119]), .lit (.string [115, 100]), .lit (.string [99, 115, 99]), .lit (.string [98, 101, 113]), .lit (.string [98, 110, 101]), .lit (.string [98, 108, 116]), .lit (.string [98, 103, 101]), .lit (.string [98, 108, 116, 117]), .lit (.string [98, 103, 101, 117]), .lit (.string [108, 117, 105]), .lit (.string [97, 117, 105, 112, 99, 99]), .lit (.string [99, 106, 97, 108]), .lit (.string [99, 106, 97, 108, 114]), .lit (.string [101, 99, 97, 108, 108]), .lit (.string [101, 98, 114, 101, 97, 107]), .lit (.string [99, 115, 101, 116, 98, 111, 117, 110, 100, 115]), .lit (.string [99, 97, 110, 100, 112, 101, 114, 109]), .lit (.string [99, 115, 101, 97, 108]), .lit (.string [99, 117, 110, 115, 101, 97, 108]), .lit (.string [99, 115, 101, 116, 97, 100, 100, 114]), .lit (.string [99, 105, 110, 99, 97, 100, 100, 114]), .lit (.string [99, 116, 101, 115, 116, 115, 117, 98, 115, 101, 116]), .lit (.string [99, 105, 110, 118, 111, 107, 101]), .lit (.string [99, 103, 101, 116, 112, 101, 114, 109]), .lit (.string [99, 103, 101, 116, 116, 121, 112, 101]), .lit (.string [99, 103, 101, 116, 98, 97, 115, 101]), .lit (.string [99, 103, 101, 116, 108, 101, 110]), .lit (.string [99, 103, 101, 116, 116, 97, 103]), .lit (.string [99, 109, 111, 118, 101]), .lit (.string [99, 99, 108, 101, 97, 114, 116, 97, 103]), .lit (.string [99, 103, 101, 116, 97, 100, 100, 114])]
def laid_curtilage_isa_bare {H : Type} : DataW H := .agg [.lit (.int .u32 51), .lit (.int .u32 1073741875), .lit (.int .u32 4147), .lit (.int .u32 8243), .lit (.int .u32 12339), .lit (.int .u32 16435), .lit (.int .u32 20531), .lit (.int .u32 1073762355), .lit (.int .u32 24627), .lit (.int .u32 28723), .lit (.int .u32 33554483), .lit (.int .u32 33558579), .lit (.int .u32 33562675), .lit (.int .u32 33566771), .lit (.int .u32 33570867), .lit (.int .u32 33574963), .lit (.int .u32 33579059), .lit (.int .u32 33583155), .lit (.int .u32 59), .lit (.int .u32 1073741883), .lit (.int .u32 4155), .lit (.int .u32 20539), .lit (.int .u32 1073762363), .lit (.int .u32 33554491), .lit (.int .u32 33570875), .lit (.int .u32 33574971), .lit (.int .u32 33579067), .lit (.int .u32 33583163), .lit (.int .u32 19), .lit (.int .u32 8211), .lit (.int .u32 12307), .lit (.int .u32 16403), .lit (.int .u32 24595), .lit (.int .u32 28691), .lit (.int .u32 4115), .lit (.int .u32 20499), .lit (.int .u32 1073762323), .lit (.int .u32 27), .lit (.int .u32 4123), .lit (.int .u32 20507), .lit (.int .u32 1073762331), .lit (.int .u32 3), .lit (.int .u32 4099), .lit (.int .u32 8195), .lit (.int .u32 12291), .lit (.int .u32 16387), .lit (.int .u32 20483), .lit (.int .u32 24579), .lit (.int .u32 8207), .lit (.int .u32 35), .lit (.int .u32 4131), .lit (.int .u32 8227), .lit (.int .u32 12323), .lit (.int .u32 16419), .lit (.int .u32 99), .lit (.int .u32 4195), .lit (.int .u32 16483), .lit (.int .u32 20579), .lit (.int .u32 24675), .lit (.int .u32 28771), .lit (.int .u32 55), .lit (.int .u32 23), .lit (.int .u32 111), .lit (.int .u32 103), .lit (.int .u32 115), .lit (.int .u32 1048691), .lit (.int .u32 268435547), .lit (.int .u32 436207707), .lit (.int .u32 369098843), .lit (.int .u32 402653275), .lit (.int .u32 536871003), .lit (.int .u32 570425435), .lit (.int .u32 1073741915), .lit (.int .u32 4227858651), .lit (.int .u32 4261412955), .lit (.int .u32 4262461531), .lit (.int .u32 4263510107), .lit (.int .u32 4264558683), .lit (.int .u32 4265607259), .lit (.int .u32 4271898715), .lit (.int .u32 4272947291), .lit (.int .u32 4277141595)]

/-- 'curtilagelaw04.IsaDecodes': WHATEVER THE INPUT: true; the input reads as it did. -/
def isaDecodesSpec : ChangeSpec := { name := "isaDecodes", fn := fun _ => fun
  | [d] => { results := [.lit (.bool true)], args := [d] }
  | _ => none }
def isaDecodesRow : OpenClaim := { program := "ytaiphmmdallhcaadoor", sum := "2f1420ac36bf3e0117407a2046f9c8563c082961d8cfeee17dc1dab8d78c9653", func := "curtilage/curtilagelaw04.IsaDecodes", spec := "isaDecodes", named := ["curtilage/isa.names", "curtilage/isa.bare"], apart := false, laid := [("curtilage/isa.names", laid_curtilage_isa_names), ("curtilage/isa.bare", laid_curtilage_isa_bare)] }
def IsaDecodesSaid : Prop := isaDecodesRow.holds Tryd.pinned (OpenSpec.ofChange isaDecodesSpec)

/-- ITS FALSE NEIGHBOUR: 'it returns false'. Refute it at one input. -/
def isaDecodesWrong : ChangeSpec := { name := "isaDecodes", fn := fun _ => fun
  | [d] => { results := [.lit (.bool false)], args := [d] }
  | _ => none }
def IsaDecodesWrongFalsely : Prop := isaDecodesRow.holds Tryd.pinned (OpenSpec.ofChange isaDecodesWrong)

/-- 'curtilagelaw04.IsaEncodes': WHATEVER THE INPUT: true; the input reads as it did. -/
def isaEncodesSpec : ChangeSpec := { name := "isaEncodes", fn := fun _ => fun
  | [d] => { results := [.lit (.bool true)], args := [d] }
  | _ => none }
def isaEncodesRow : OpenClaim := { program := "ytaiphmmdallhcaadoor", sum := "2f1420ac36bf3e0117407a2046f9c8563c082961d8cfeee17dc1dab8d78c9653", func := "curtilage/curtilagelaw04.IsaEncodes", spec := "isaEncodes", named := ["curtilage/isa.names", "curtilage/isa.bare"], apart := false, laid := [("curtilage/isa.names", laid_curtilage_isa_names), ("curtilage/isa.bare", laid_curtilage_isa_bare)] }
def IsaEncodesSaid : Prop := isaEncodesRow.holds Tryd.pinned (OpenSpec.ofChange isaEncodesSpec)

/-- ITS FALSE NEIGHBOUR: 'it returns false'. Refute it at one input. -/
def isaEncodesWrong : ChangeSpec := { name := "isaEncodes", fn := fun _ => fun
  | [d] => { results := [.lit (.bool false)], args := [d] }
  | _ => none }
def IsaEncodesWrongFalsely : Prop := isaEncodesRow.holds Tryd.pinned (OpenSpec.ofChange isaEncodesWrong)

/-- 'curtilagelaw04.IsaNames': WHATEVER THE INPUT: true; the input reads as it did. -/
def isaNamesSpec : ChangeSpec := { name := "isaNames", fn := fun _ => fun
  | [d1, d2] => { results := [.lit (.bool true)], args := [d1, d2] }
  | _ => none }
def isaNamesRow : OpenClaim := { program := "ytaiphmmdallhcaadoor", sum := "2f1420ac36bf3e0117407a2046f9c8563c082961d8cfeee17dc1dab8d78c9653", func := "curtilage/curtilagelaw04.IsaNames", spec := "isaNames", named := ["curtilage/isa.names", "curtilage/isa.bare"], apart := false, laid := [("curtilage/isa.names", laid_curtilage_isa_names), ("curtilage/isa.bare", laid_curtilage_isa_bare)] }
def IsaNamesSaid : Prop := isaNamesRow.holds Tryd.pinned (OpenSpec.ofChange isaNamesSpec)

/-- ITS FALSE NEIGHBOUR: 'it returns false'. Refute it at one input. -/
def isaNamesWrong : ChangeSpec := { name := "isaNames", fn := fun _ => fun
  | [d1, d2] => { results := [.lit (.bool false)], args := [d1, d2] }
  | _ => none }
def IsaNamesWrongFalsely : Prop := isaNamesRow.holds Tryd.pinned (OpenSpec.ofChange isaNamesWrong)

/-- 'curtilagelaw04.IsaBack': WHATEVER THE INPUT: true; the input reads as it did. -/
def isaBackSpec : ChangeSpec := { name := "isaBack", fn := fun _ => fun
  | [d] => { results := [.lit (.bool true)], args := [d] }
  | _ => none }
def isaBackRow : OpenClaim := { program := "ytaiphmmdallhcaadoor", sum := "2f1420ac36bf3e0117407a2046f9c8563c082961d8cfeee17dc1dab8d78c9653", func := "curtilage/curtilagelaw04.IsaBack", spec := "isaBack", named := ["curtilage/isa.names", "curtilage/isa.bare"], apart := false, laid := [("curtilage/isa.names", laid_curtilage_isa_names), ("curtilage/isa.bare", laid_curtilage_isa_bare)] }
def IsaBackSaid : Prop := isaBackRow.holds Tryd.pinned (OpenSpec.ofChange isaBackSpec)

/-- ITS FALSE NEIGHBOUR: 'it returns false'. Refute it at one input. -/
def isaBackWrong : ChangeSpec := { name := "isaBack", fn := fun _ => fun
  | [d] => { results := [.lit (.bool false)], args := [d] }
  | _ => none }
def IsaBackWrongFalsely : Prop := isaBackRow.holds Tryd.pinned (OpenSpec.ofChange isaBackWrong)

/-- 'curtilagelaw04.IsaAgain': WHATEVER THE INPUT: true; the input reads as it did. -/
def isaAgainSpec : ChangeSpec := { name := "isaAgain", fn := fun _ => fun
  | [d] => { results := [.lit (.bool true)], args := [d] }
  | _ => none }
def isaAgainRow : OpenClaim := { program := "ytaiphmmdallhcaadoor", sum := "2f1420ac36bf3e0117407a2046f9c8563c082961d8cfeee17dc1dab8d78c9653", func := "curtilage/curtilagelaw04.IsaAgain", spec := "isaAgain", named := ["curtilage/isa.names", "curtilage/isa.bare"], apart := false, laid := [("curtilage/isa.names", laid_curtilage_isa_names), ("curtilage/isa.bare", laid_curtilage_isa_bare)] }
def IsaAgainSaid : Prop := isaAgainRow.holds Tryd.pinned (OpenSpec.ofChange isaAgainSpec)

/-- ITS FALSE NEIGHBOUR: 'it returns false'. Refute it at one input. -/
def isaAgainWrong : ChangeSpec := { name := "isaAgain", fn := fun _ => fun
  | [d] => { results := [.lit (.bool false)], args := [d] }
  | _ => none }
def IsaAgainWrongFalsely : Prop := isaAgainRow.holds Tryd.pinned (OpenSpec.ofChange isaAgainWrong)

/-- 'curtilagelaw04.IsaUnlike': WHATEVER THE INPUT: true; the input reads as it did. -/
def isaUnlikeSpec : ChangeSpec := { name := "isaUnlike", fn := fun _ => fun
  | [d1, d2] => { results := [.lit (.bool true)], args := [d1, d2] }
  | _ => none }
def isaUnlikeRow : OpenClaim := { program := "ytaiphmmdallhcaadoor", sum := "2f1420ac36bf3e0117407a2046f9c8563c082961d8cfeee17dc1dab8d78c9653", func := "curtilage/curtilagelaw04.IsaUnlike", spec := "isaUnlike", named := ["curtilage/isa.names", "curtilage/isa.bare"], apart := false, laid := [("curtilage/isa.names", laid_curtilage_isa_names), ("curtilage/isa.bare", laid_curtilage_isa_bare)] }
def IsaUnlikeSaid : Prop := isaUnlikeRow.holds Tryd.pinned (OpenSpec.ofChange isaUnlikeSpec)

/-- ITS FALSE NEIGHBOUR: 'it returns false'. Refute it at one input. -/
def isaUnlikeWrong : ChangeSpec := { name := "isaUnlike", fn := fun _ => fun
  | [d1, d2] => { results := [.lit (.bool false)], args := [d1, d2] }
  | _ => none }
def IsaUnlikeWrongFalsely : Prop := isaUnlikeRow.holds Tryd.pinned (OpenSpec.ofChange isaUnlikeWrong)

/- THE SECOND FORM. 'bulk': how many values and letters a reading holds, each counted each time it is reached (what is shared counts as often as it is met; a slice's spare places count too). A statement '..UptoSaid' is the law's where the arguments, and the package variables that the reading takes, are together of bulk at most 1048576: NARROWER than '..Said'. Prove '..Said' where nothing that the law and all that it calls make is longer than what came in: it says more and counts as full. Else prove '..UptoSaid'. A law counts once. -/
mutual
def uptoBulk {H : Type} : DataW H → Nat
  | .lit (.string bytes) => bytes.length + 1
  | .lit _ => 1
  | .nil => 1
  | .ptr d => uptoBulk d + 1
  | .slice elems spare => uptoBulkAll elems + uptoBulkAll spare + 1
  | .agg parts => uptoBulkAll parts + 1
  | .iface _ d => uptoBulk d + 1
  | .map entries => uptoBulkEntries entries + 1
  | .held _ => 1
def uptoBulkAll {H : Type} : List (DataW H) → Nat
  | [] => 0
  | d :: r => uptoBulk d + uptoBulkAll r
def uptoBulkEntries {H : Type} : List (Lit × DataW H) → Nat
  | [] => 0
  | x :: r => uptoBulkEntry x + uptoBulkEntries r
def uptoBulkEntry {H : Type} : Lit × DataW H → Nat
  | (.string bytes, d) => bytes.length + uptoBulk d + 1
  | (_, d) => uptoBulk d + 1
 end
def uptoSmall : (H : Type) → List (DataW H) → Bool := fun _ ds => decide (uptoBulkAll ds ≤ 1048576)
def OpenSpec.upto (s : _root_.Go.ChangeSpec) : _root_.Go.OpenSpec := { _root_.Go.OpenSpec.ofChange s with cond := some uptoSmall }

/-- 'curtilagelaw04.IsaDecodes', WHERE WHAT IT READS IS OF BULK AT MOST 1048576: true; the input reads as it did. -/
def isaDecodesUptoRow : OpenClaim := { program := "ytaiphmmdallhcaadoor", sum := "2f1420ac36bf3e0117407a2046f9c8563c082961d8cfeee17dc1dab8d78c9653", func := "curtilage/curtilagelaw04.IsaDecodes", spec := "isaDecodes", named := ["curtilage/isa.names", "curtilage/isa.bare"], apart := false, laid := [("curtilage/isa.names", laid_curtilage_isa_names), ("curtilage/isa.bare", laid_curtilage_isa_bare)], narrowed := true }
def IsaDecodesUptoSaid : Prop := isaDecodesUptoRow.holds Tryd.pinned (OpenSpec.upto isaDecodesSpec)

/-- 'curtilagelaw04.IsaEncodes', WHERE WHAT IT READS IS OF BULK AT MOST 1048576: true; the input reads as it did. -/
def isaEncodesUptoRow : OpenClaim := { program := "ytaiphmmdallhcaadoor", sum := "2f1420ac36bf3e0117407a2046f9c8563c082961d8cfeee17dc1dab8d78c9653", func := "curtilage/curtilagelaw04.IsaEncodes", spec := "isaEncodes", named := ["curtilage/isa.names", "curtilage/isa.bare"], apart := false, laid := [("curtilage/isa.names", laid_curtilage_isa_names), ("curtilage/isa.bare", laid_curtilage_isa_bare)], narrowed := true }
def IsaEncodesUptoSaid : Prop := isaEncodesUptoRow.holds Tryd.pinned (OpenSpec.upto isaEncodesSpec)

/-- 'curtilagelaw04.IsaNames', WHERE WHAT IT READS IS OF BULK AT MOST 1048576: true; the input reads as it did. -/
def isaNamesUptoRow : OpenClaim := { program := "ytaiphmmdallhcaadoor", sum := "2f1420ac36bf3e0117407a2046f9c8563c082961d8cfeee17dc1dab8d78c9653", func := "curtilage/curtilagelaw04.IsaNames", spec := "isaNames", named := ["curtilage/isa.names", "curtilage/isa.bare"], apart := false, laid := [("curtilage/isa.names", laid_curtilage_isa_names), ("curtilage/isa.bare", laid_curtilage_isa_bare)], narrowed := true }
def IsaNamesUptoSaid : Prop := isaNamesUptoRow.holds Tryd.pinned (OpenSpec.upto isaNamesSpec)

/-- 'curtilagelaw04.IsaBack', WHERE WHAT IT READS IS OF BULK AT MOST 1048576: true; the input reads as it did. -/
def isaBackUptoRow : OpenClaim := { program := "ytaiphmmdallhcaadoor", sum := "2f1420ac36bf3e0117407a2046f9c8563c082961d8cfeee17dc1dab8d78c9653", func := "curtilage/curtilagelaw04.IsaBack", spec := "isaBack", named := ["curtilage/isa.names", "curtilage/isa.bare"], apart := false, laid := [("curtilage/isa.names", laid_curtilage_isa_names), ("curtilage/isa.bare", laid_curtilage_isa_bare)], narrowed := true }
def IsaBackUptoSaid : Prop := isaBackUptoRow.holds Tryd.pinned (OpenSpec.upto isaBackSpec)

/-- 'curtilagelaw04.IsaAgain', WHERE WHAT IT READS IS OF BULK AT MOST 1048576: true; the input reads as it did. -/
def isaAgainUptoRow : OpenClaim := { program := "ytaiphmmdallhcaadoor", sum := "2f1420ac36bf3e0117407a2046f9c8563c082961d8cfeee17dc1dab8d78c9653", func := "curtilage/curtilagelaw04.IsaAgain", spec := "isaAgain", named := ["curtilage/isa.names", "curtilage/isa.bare"], apart := false, laid := [("curtilage/isa.names", laid_curtilage_isa_names), ("curtilage/isa.bare", laid_curtilage_isa_bare)], narrowed := true }
def IsaAgainUptoSaid : Prop := isaAgainUptoRow.holds Tryd.pinned (OpenSpec.upto isaAgainSpec)

/-- 'curtilagelaw04.IsaUnlike', WHERE WHAT IT READS IS OF BULK AT MOST 1048576: true; the input reads as it did. -/
def isaUnlikeUptoRow : OpenClaim := { program := "ytaiphmmdallhcaadoor", sum := "2f1420ac36bf3e0117407a2046f9c8563c082961d8cfeee17dc1dab8d78c9653", func := "curtilage/curtilagelaw04.IsaUnlike", spec := "isaUnlike", named := ["curtilage/isa.names", "curtilage/isa.bare"], apart := false, laid := [("curtilage/isa.names", laid_curtilage_isa_names), ("curtilage/isa.bare", laid_curtilage_isa_bare)], narrowed := true }
def IsaUnlikeUptoSaid : Prop := isaUnlikeUptoRow.holds Tryd.pinned (OpenSpec.upto isaUnlikeSpec)

end Rows
end Go.Proofs.YtaiphmmdallhcaaDoor
