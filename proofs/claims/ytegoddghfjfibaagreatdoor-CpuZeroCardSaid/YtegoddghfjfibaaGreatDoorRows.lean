/-
  NARROWER THAN 'FOR EVERY INPUT', by the rows' own cells (each row's printed sentence says how): CpuSteps: laid · CpuLess: laid · CpuSpared: laid · CpuOutside: laid · CpuZero: laid · CpuNothing: laid.
  DERIVED. THE GIVEN ROWS OF THIS SEAT. 6 by the template 'for every input the law returns true; each argument reads behind the call as it read before'; 0 by the template 'total and deterministic' (their statements: YtegoddghfjfibaaGreatDoorTotals.lean).
  GIVEN WITH THE SEED: the statements are not yours to turn. If you find one false, say at which input.
  Laid BY PROGRAM, IN A SANDBOX (cutbox-rows.mjs): the forced cells as the released guide's own fill.sh prints them over the translation f2a128bd2df91768… (all of the seat's roots in one cut). By AI agents, Wed Nov 11 2026. No macro, syntax, notation, axiom, sorry.
-/
import Derived.Test.YtegoddghfjfibaaGreatDoorChecked
import GoSem.Claim
import GoSem.ClaimJoined
import GoSem.ClaimMapViews
import Derived.JoinedTies
import Derived.KernelRfl
namespace Go.Proofs.YtegoddghfjfibaaGreatDoor
/- THE CELL 'sum', in the pinned program and in every row, IS THE sha256 OF THE DUMP (.gsa) THAT YtegoddghfjfibaaGreatDoorProg.lean LOADS. Nothing in Lean hashes anything: it is a label: what it is worth is what the hold of that sum in a sandbox is worth. -/
noncomputable def Tryz.pinned : Pinned := { name := "ytegoddghfjfibaagreatdoor", sum := "f2a128bd2df9176823b2175c75a11adbc0cbeb2923ac7cf733dd8ff65501b1a5", checked := Tryz.checked }
namespace Rows
def none {H : Type} : Left H := { results := [], args := [] }

/- WHAT THE LISTED PACKAGE-LEVEL VARIABLES READ AS WHEN THE CALL BEGINS. Each datum BY PROGRAM (the guide's laid-datum.mjs) off the statement by which the dump's own 'gosem.cut.vars' lays the variable. In a bare row this is a premise. The card (YtegoddghfjfibaaGreatDoorCards.lean) ties it to the program's text. -/
def laid_math_bits_deBruijn32tab {H : Type} : DataW H := .agg [.lit (.int .u8 0), .lit (.int .u8 1), .lit (.int .u8 28), .lit (.int .u8 2), .lit (.int .u8 29), .lit (.int .u8 14), .lit (.int .u8 24), .lit (.int .u8 3), .lit (.int .u8 30), .lit (.int .u8 22), .lit (.int .u8 20), .lit (.int .u8 15), .lit (.int .u8 25), .lit (.int .u8 17), .lit (.int .u8 4), .lit (.int .u8 8), .lit (.int .u8 31), .lit (.int .u8 27), .lit (.int .u8 13), .lit (.int .u8 23), .lit (.int .u8 21), .lit (.int .u8 19), .lit (.int .u8 16), .lit (.int .u8 7), .lit (.int .u8 26), .lit (.int .u8 12), .lit (.int .u8 18), .lit (.int .u8 6), .lit (.int .u8 11), .lit (.int .u8 5), .lit (.int .u8 10), .lit (.int .u8 9)]
def laid_math_bits_deBruijn64tab {H : Type} : DataW H := .agg [.lit (.int .u8 0), .lit (.int .u8 1), .lit (.int .u8 56), .lit (.int .u8 2), .lit (.int .u8 57), .lit (.int .u8 49), .lit (.int .u8 28), .lit (.int .u8 3), .lit (.int .u8 61), .lit (.int .u8 58), .lit (.int .u8 42), .lit (.int .u8 50), .lit (.int .u8 38), .lit (.int .u8 29), .lit (.int .u8 17), .lit (.int .u8 4), .lit (.int .u8 62), .lit (.int .u8 47), .lit (.int .u8 59), .lit (.int .u8 36), .lit (.int .u8 45), .lit (.int .u8 43), .lit (.int .u8 51), .lit (.int .u8 22), .lit (.int .u8 53), .lit (.int .u8 39), .lit (.int .u8 33), .lit (.int .u8 30), .lit (.int .u8 24), .lit (.int .u8 18), .lit (.int .u8 12), .lit (.int .u8 5), .lit (.int .u8 63), .lit (.int .u8 55), .lit (.int .u8 48), .lit (.int .u8 27), .lit (.int .u8 60), .lit (.int .u8 41), .lit (.int .u8 37), .lit (.int .u8 16), .lit (.int .u8 46), .lit (.int .u8 35), .lit (.int .u8 44), .lit (.int .u8 21), .lit (.int .u8 52), .lit (.int .u8 32), .lit (.int .u8 23), .lit (.int .u8 11), .lit (.int .u8 54), .lit (.int .u8 26), .lit (.int .u8 40), .lit (.int .u8 15), .lit (.int .u8 34), .lit (.int .u8 20), .lit (.int .u8 31), .lit (.int .u8 10), .lit (.int .u8 25), .lit (.int .u8 14), .lit (.int .u8 19), .lit (.int .u8 9), .lit (.int .u8 13), .lit (.int .u8 8), .lit (.int .u8 7), .lit (.int .u8 6)]
def laid_curtilage_isa_names {H : Type} : DataW H := .agg [.lit (.string [97, 100, 100]), .lit (.string [115, 117, 98]), .lit (.string [115, 108, 108]), .lit (.string [115, 108, 116]), .lit (.string [115, 108, 116, 117]), .lit (.string [120, 111, 114]), .lit (.string [115, 114, 108]), .lit (.string [115, 114, 97]), .lit (.string [111, 114]), .lit (.string [97, 110, 100]), .lit (.string [109, 117, 108]), .lit (.string [109, 117, 108, 104]), .lit (.string [109, 117, 108, 104, 115, 117]), .lit (.string [109, 117, 108, 104, 117]), .lit (.string [100, 105, 118]), .lit (.string [100, 105, 118, 117]), .lit (.string [114, 101, 109]), .lit (.string [114, 101, 109, 117]), .lit (.string [97, 100, 100, 119]), .lit (.string [115, 117, 98, 119]), .lit (.string [115, 108, 108, 119]), .lit (.string [115, 114, 108, 119]), .lit (.string [115, 114, 97, 119]), .lit (.string [109, 117, 108, 119]), .lit (.string [100, 105, 118, 119]), .lit (.string [100, 105, 118, 117, 119]), .lit (.string [114, 101, 109, 119]), .lit (.string [114, 101, 109, 117, 119]), .lit (.string [97, 100, 100, 105]), .lit (.string [115, 108, 116, 105]), .lit (.string [115, 108, 116, 105, 117]), .lit (.string [120, 111, 114, 105]), .lit (.string [111, 114, 105]), .lit (.string [97, 110, 100, 105]), .lit (.string [115, 108, 108, 105]), .lit (.string [115, 114, 108, 105]), .lit (.string [115, 114, 97, 105]), .lit (.string [97, 100, 100, 105, 119]), .lit (.string [115, 108, 108, 105, 119]), .lit (.string [115, 114, 108, 105, 119]), .lit (.string [115, 114, 97, 105, 119]), .lit (.string [108, 98]), .lit (.string [108, 104]), .lit (.string [108, 119]), .lit (.string [108, 100]), .lit (.string [108, 98, 117]), .lit (.string [108, 104, 117]), .lit (.string [108, 119, 117]), .lit (.string [99, 108, 99]), .lit (.string [115, 98]), .lit (.string [115, 104]), .lit (.string [115, 119]), .lit (.string [115, 100]), .lit (.string [99, 115, 99]), .lit (.string [98, 101, 113]), .lit (.string [98, 110, 101]), .lit (.string [98, 108, 116]), .lit (.string [98, 103, 101]), .lit (.string [98, 108, 116, 117]), .lit (.string [98, 103, 101, 117]), .lit (.string [108, 117, 105]), .lit (.string [97, 117, 105, 112, 99, 99]), .lit (.string [99, 106, 97, 108]), .lit (.string [99, 106, 97, 108, 114]), .lit (.string [101, 99, 97, 108, 108]), .lit (.string [101, 98, 114, 101, 97, 107]), .lit (.string [99, 115, 101, 116, 98, 111, 117, 110, 100, 115]), .lit (.string [99, 97, 110, 100, 112, 101, 114, 109]), .lit (.string [99, 115, 101, 97, 108]), .lit (.string [99, 117, 110, 115, 101, 97, 108]), .lit (.string [99, 115, 101, 116, 97, 100, 100, 114]), .lit (.string [99, 105, 110, 99, 97, 100, 100, 114]), .lit (.string [99, 116, 101, 115, 116, 115, 117, 98, 115, 101, 116]), .lit (.string [99, 105, 110, 118, 111, 107, 101]), .lit (.string [99, 103, 101, 116, 112, 101, 114, 109]), .lit (.string [99, 103, 101, 116, 116, 121, 112, 101]), .lit (.string [99, 103, 101, 116, 98, 97, 115, 101]), .lit (.string [99, 103, 101, 116, 108, 101, 110]), .lit (.string [99, 103, 101, 116, 116, 97, 103]), .lit (.string [99, 109, 111, 118, 101]), .lit (.string [99, 99, 108, 101, 97, 114, 116, 97, 103]), .lit (.string [99, 103, 101, 116, 97, 100, 100, 114])]
def laid_curtilage_isa_bare {H : Type} : DataW H := .agg [.lit (.int .u32 51), .lit (.int .u32 1073741875), .lit (.int .u32 4147), .lit (.int .u32 8243), .lit (.int .u32 12339), .lit (.int .u32 16435), .lit (.int .u32 20531), .lit (.int .u32 1073762355), .lit (.int .u32 24627), .lit (.int .u32 28723), .lit (.int .u32 33554483), .lit (.int .u32 33558579), .lit (.int .u32 33562675), .lit (.int .u32 33566771), .lit (.int .u32 33570867), .lit (.int .u32 33574963), .lit (.int .u32 33579059), .lit (.int .u32 33583155), .lit (.int .u32 59), .lit (.int .u32 1073741883), .lit (.int .u32 4155), .lit (.int .u32 20539), .lit (.int .u32 1073762363), .lit (.int .u32 33554491), .lit (.int .u32 33570875), .lit (.int .u32 33574971), .lit (.int .u32 33579067), .lit (.int .u32 33583163), .lit (.int .u32 19), .lit (.int .u32 8211), .lit (.int .u32 12307), .lit (.int .u32 16403), .lit (.int .u32 24595), .lit (.int .u32 28691), .lit (.int .u32 4115), .lit (.int .u32 20499), .lit (.int .u32 1073762323), .lit (.int .u32 27), .lit (.int .u32 4123), .lit (.int .u32 20507), .lit (.int .u32 1073762331), .lit (.int .u32 3), .lit (.int .u32 4099), .lit (.int .u32 8195), .lit (.int .u32 12291), .lit (.int .u32 16387), .lit (.int .u32 20483), .lit (.int .u32 24579), .lit (.int .u32 8207), .lit (.int .u32 35), .lit (.int .u32 4131), .lit (.int .u32 8227), .lit (.int .u32 12323), .lit (.int .u32 16419), .lit (.int .u32 99), .lit (.int .u32 4195), .lit (.int .u32 16483), .lit (.int .u32 20579), .lit (.int .u32 24675), .lit (.int .u32 28771), .lit (.int .u32 55), .lit (.int .u32 23), .lit (.int .u32 111), .lit (.int .u32 103), .lit (.int .u32 115), .lit (.int .u32 1048691), .lit (.int .u32 268435547), .lit (.int .u32 436207707), .lit (.int .u32 369098843), .lit (.int .u32 402653275), .lit (.int .u32 536871003), .lit (.int .u32 570425435), .lit (.int .u32 1073741915), .lit (.int .u32 4227858651), .lit (.int .u32 4261412955), .lit (.int .u32 4262461531), .lit (.int .u32 4263510107), .lit (.int .u32 4264558683), .lit (.int .u32 4265607259), .lit (.int .u32 4271898715), .lit (.int .u32 4272947291), .lit (.int .u32 4277141595)]
def laid_internal_strconv_uint64pow10 {H : Type} : DataW H := .agg [.lit (.int .u64 1), .lit (.int .u64 10), .lit (.int .u64 100), .lit (.int .u64 1000), .lit (.int .u64 10000), .lit (.int .u64 100000), .lit (.int .u64 1000000), .lit (.int .u64 10000000), .lit (.int .u64 100000000), .lit (.int .u64 1000000000), .lit (.int .u64 10000000000), .lit (.int .u64 100000000000), .lit (.int .u64 1000000000000), .lit (.int .u64 10000000000000), .lit (.int .u64 100000000000000), .lit (.int .u64 1000000000000000), .lit (.int .u64 10000000000000000), .lit (.int .u64 100000000000000000), .lit (.int .u64 1000000000000000000), .lit (.int .u64 10000000000000000000)]

/-- 'curtilagelaw07.CpuSteps': WHATEVER THE INPUT: true; the input reads as it did. -/
def cpuStepsSpec : ChangeSpec := { name := "cpuSteps", fn := fun _ => fun
  | [d1, d2, d3] => { results := [.lit (.bool true)], args := [d1, d2, d3] }
  | _ => none }
def cpuStepsRow : OpenClaim := { program := "ytegoddghfjfibaagreatdoor", sum := "f2a128bd2df9176823b2175c75a11adbc0cbeb2923ac7cf733dd8ff65501b1a5", func := "curtilage/curtilagelaw07.CpuSteps", spec := "cpuSteps", inPlace := ["internal/abi.NoEscape"], unfollowed := true, recurses := true, named := ["curtilage/isa.bare", "curtilage/isa.names", "internal/strconv.uint64pow10", "math/bits.deBruijn32tab", "math/bits.deBruijn64tab"], apart := false, laid := [("math/bits.deBruijn32tab", laid_math_bits_deBruijn32tab), ("math/bits.deBruijn64tab", laid_math_bits_deBruijn64tab), ("curtilage/isa.names", laid_curtilage_isa_names), ("curtilage/isa.bare", laid_curtilage_isa_bare), ("internal/strconv.uint64pow10", laid_internal_strconv_uint64pow10)] }
def CpuStepsSaid : Prop := cpuStepsRow.holds Tryz.pinned (OpenSpec.ofChange cpuStepsSpec)

/-- ITS FALSE NEIGHBOUR: 'it returns false'. Refute it at one input. -/
def cpuStepsWrong : ChangeSpec := { name := "cpuSteps", fn := fun _ => fun
  | [d1, d2, d3] => { results := [.lit (.bool false)], args := [d1, d2, d3] }
  | _ => none }
def CpuStepsWrongFalsely : Prop := cpuStepsRow.holds Tryz.pinned (OpenSpec.ofChange cpuStepsWrong)

/-- 'curtilagelaw07.CpuLess': WHATEVER THE INPUT: true; the input reads as it did. -/
def cpuLessSpec : ChangeSpec := { name := "cpuLess", fn := fun _ => fun
  | [d1, d2, d3] => { results := [.lit (.bool true)], args := [d1, d2, d3] }
  | _ => none }
def cpuLessRow : OpenClaim := { program := "ytegoddghfjfibaagreatdoor", sum := "f2a128bd2df9176823b2175c75a11adbc0cbeb2923ac7cf733dd8ff65501b1a5", func := "curtilage/curtilagelaw07.CpuLess", spec := "cpuLess", unfollowed := true, recurses := true, named := ["curtilage/isa.bare", "curtilage/isa.names"], apart := false, laid := [("curtilage/isa.names", laid_curtilage_isa_names), ("curtilage/isa.bare", laid_curtilage_isa_bare)] }
def CpuLessSaid : Prop := cpuLessRow.holds Tryz.pinned (OpenSpec.ofChange cpuLessSpec)

/-- ITS FALSE NEIGHBOUR: 'it returns false'. Refute it at one input. -/
def cpuLessWrong : ChangeSpec := { name := "cpuLess", fn := fun _ => fun
  | [d1, d2, d3] => { results := [.lit (.bool false)], args := [d1, d2, d3] }
  | _ => none }
def CpuLessWrongFalsely : Prop := cpuLessRow.holds Tryz.pinned (OpenSpec.ofChange cpuLessWrong)

/-- 'curtilagelaw07.CpuSpared': WHATEVER THE INPUT: true; the input reads as it did. -/
def cpuSparedSpec : ChangeSpec := { name := "cpuSpared", fn := fun _ => fun
  | [d1, d2, d3] => { results := [.lit (.bool true)], args := [d1, d2, d3] }
  | _ => none }
def cpuSparedRow : OpenClaim := { program := "ytegoddghfjfibaagreatdoor", sum := "f2a128bd2df9176823b2175c75a11adbc0cbeb2923ac7cf733dd8ff65501b1a5", func := "curtilage/curtilagelaw07.CpuSpared", spec := "cpuSpared", unfollowed := true, recurses := true, named := ["curtilage/isa.bare", "curtilage/isa.names"], apart := false, laid := [("curtilage/isa.names", laid_curtilage_isa_names), ("curtilage/isa.bare", laid_curtilage_isa_bare)] }
def CpuSparedSaid : Prop := cpuSparedRow.holds Tryz.pinned (OpenSpec.ofChange cpuSparedSpec)

/-- ITS FALSE NEIGHBOUR: 'it returns false'. Refute it at one input. -/
def cpuSparedWrong : ChangeSpec := { name := "cpuSpared", fn := fun _ => fun
  | [d1, d2, d3] => { results := [.lit (.bool false)], args := [d1, d2, d3] }
  | _ => none }
def CpuSparedWrongFalsely : Prop := cpuSparedRow.holds Tryz.pinned (OpenSpec.ofChange cpuSparedWrong)

/-- 'curtilagelaw07.CpuOutside': WHATEVER THE INPUT: true; the input reads as it did. -/
def cpuOutsideSpec : ChangeSpec := { name := "cpuOutside", fn := fun _ => fun
  | [d1, d2, d3] => { results := [.lit (.bool true)], args := [d1, d2, d3] }
  | _ => none }
def cpuOutsideRow : OpenClaim := { program := "ytegoddghfjfibaagreatdoor", sum := "f2a128bd2df9176823b2175c75a11adbc0cbeb2923ac7cf733dd8ff65501b1a5", func := "curtilage/curtilagelaw07.CpuOutside", spec := "cpuOutside", unfollowed := true, recurses := true, named := ["curtilage/isa.bare", "curtilage/isa.names"], apart := false, laid := [("curtilage/isa.names", laid_curtilage_isa_names), ("curtilage/isa.bare", laid_curtilage_isa_bare)] }
def CpuOutsideSaid : Prop := cpuOutsideRow.holds Tryz.pinned (OpenSpec.ofChange cpuOutsideSpec)

/-- ITS FALSE NEIGHBOUR: 'it returns false'. Refute it at one input. -/
def cpuOutsideWrong : ChangeSpec := { name := "cpuOutside", fn := fun _ => fun
  | [d1, d2, d3] => { results := [.lit (.bool false)], args := [d1, d2, d3] }
  | _ => none }
def CpuOutsideWrongFalsely : Prop := cpuOutsideRow.holds Tryz.pinned (OpenSpec.ofChange cpuOutsideWrong)

/-- 'curtilagelaw07.CpuZero': WHATEVER THE INPUT: true; the input reads as it did. -/
def cpuZeroSpec : ChangeSpec := { name := "cpuZero", fn := fun _ => fun
  | [d1, d2] => { results := [.lit (.bool true)], args := [d1, d2] }
  | _ => none }
def cpuZeroRow : OpenClaim := { program := "ytegoddghfjfibaagreatdoor", sum := "f2a128bd2df9176823b2175c75a11adbc0cbeb2923ac7cf733dd8ff65501b1a5", func := "curtilage/curtilagelaw07.CpuZero", spec := "cpuZero", unfollowed := true, recurses := true, named := ["curtilage/isa.bare", "curtilage/isa.names"], apart := false, laid := [("curtilage/isa.names", laid_curtilage_isa_names), ("curtilage/isa.bare", laid_curtilage_isa_bare)] }
def CpuZeroSaid : Prop := cpuZeroRow.holds Tryz.pinned (OpenSpec.ofChange cpuZeroSpec)

/-- ITS FALSE NEIGHBOUR: 'it returns false'. Refute it at one input. -/
def cpuZeroWrong : ChangeSpec := { name := "cpuZero", fn := fun _ => fun
  | [d1, d2] => { results := [.lit (.bool false)], args := [d1, d2] }
  | _ => none }
def CpuZeroWrongFalsely : Prop := cpuZeroRow.holds Tryz.pinned (OpenSpec.ofChange cpuZeroWrong)

/-- 'curtilagelaw07.CpuNothing': WHATEVER THE INPUT: true; the input reads as it did. -/
def cpuNothingSpec : ChangeSpec := { name := "cpuNothing", fn := fun _ => fun
  | [d1, d2, d3] => { results := [.lit (.bool true)], args := [d1, d2, d3] }
  | _ => none }
def cpuNothingRow : OpenClaim := { program := "ytegoddghfjfibaagreatdoor", sum := "f2a128bd2df9176823b2175c75a11adbc0cbeb2923ac7cf733dd8ff65501b1a5", func := "curtilage/curtilagelaw07.CpuNothing", spec := "cpuNothing", unfollowed := true, recurses := true, named := ["curtilage/isa.bare", "curtilage/isa.names"], apart := false, laid := [("curtilage/isa.names", laid_curtilage_isa_names), ("curtilage/isa.bare", laid_curtilage_isa_bare)] }
def CpuNothingSaid : Prop := cpuNothingRow.holds Tryz.pinned (OpenSpec.ofChange cpuNothingSpec)

/-- ITS FALSE NEIGHBOUR: 'it returns false'. Refute it at one input. -/
def cpuNothingWrong : ChangeSpec := { name := "cpuNothing", fn := fun _ => fun
  | [d1, d2, d3] => { results := [.lit (.bool false)], args := [d1, d2, d3] }
  | _ => none }
def CpuNothingWrongFalsely : Prop := cpuNothingRow.holds Tryz.pinned (OpenSpec.ofChange cpuNothingWrong)

/- THE SECOND FORM. 'bulk': how many values and letters a reading holds, each counted each time it is reached (what is shared counts as often as it is met; a slice's spare places count too). A statement '..UptoSaid' is the law's where the arguments, and the package variables that the reading takes, are together of bulk at most 1048576: NARROWER than '..Said'. Prove '..Said' where nothing that the law and all that it calls make is longer than what came in: it says more and counts as full. Else prove '..UptoSaid'. A law counts once. -/
mutual
def uptoBulk {H : Type} : DataW H → Nat
  | .lit (.string bytes) => bytes.length + 1
  | .lit _ => 1
  | .nil => 1
  | .ptr d => uptoBulk d + 1
  | .slice elems spare => uptoBulkAll elems + uptoBulkAll spare + 1
  | .agg parts => uptoBulkAll parts + 1
  | .iface _ d => uptoBulk d + 1
  | .map entries => uptoBulkEntries entries + 1
  | .held _ => 1
def uptoBulkAll {H : Type} : List (DataW H) → Nat
  | [] => 0
  | d :: r => uptoBulk d + uptoBulkAll r
def uptoBulkEntries {H : Type} : List (Lit × DataW H) → Nat
  | [] => 0
  | x :: r => uptoBulkEntry x + uptoBulkEntries r
def uptoBulkEntry {H : Type} : Lit × DataW H → Nat
  | (.string bytes, d) => bytes.length + uptoBulk d + 1
  | (_, d) => uptoBulk d + 1
 end
def uptoSmall : (H : Type) → List (DataW H) → Bool := fun _ ds => decide (uptoBulkAll ds ≤ 1048576)
def OpenSpec.upto (s : _root_.Go.ChangeSpec) : _root_.Go.OpenSpec := { _root_.Go.OpenSpec.ofChange s with cond := some uptoSmall }

/-- 'curtilagelaw07.CpuSteps', WHERE WHAT IT READS IS OF BULK AT MOST 1048576: true; the input reads as it did. -/
def cpuStepsUptoRow : OpenClaim := { program := "ytegoddghfjfibaagreatdoor", sum := "f2a128bd2df9176823b2175c75a11adbc0cbeb2923ac7cf733dd8ff65501b1a5", func := "curtilage/curtilagelaw07.CpuSteps", spec := "cpuSteps", inPlace := ["internal/abi.NoEscape"], unfollowed := true, recurses := true, named := ["curtilage/isa.bare", "curtilage/isa.names", "internal/strconv.uint64pow10", "math/bits.deBruijn32tab", "math/bits.deBruijn64tab"], apart := false, laid := [("math/bits.deBruijn32tab", laid_math_bits_deBruijn32tab), ("math/bits.deBruijn64tab", laid_math_bits_deBruijn64tab), ("curtilage/isa.names", laid_curtilage_isa_names), ("curtilage/isa.bare", laid_curtilage_isa_bare), ("internal/strconv.uint64pow10", laid_internal_strconv_uint64pow10)], narrowed := true }
def CpuStepsUptoSaid : Prop := cpuStepsUptoRow.holds Tryz.pinned (OpenSpec.upto cpuStepsSpec)

/-- 'curtilagelaw07.CpuLess', WHERE WHAT IT READS IS OF BULK AT MOST 1048576: true; the input reads as it did. -/
def cpuLessUptoRow : OpenClaim := { program := "ytegoddghfjfibaagreatdoor", sum := "f2a128bd2df9176823b2175c75a11adbc0cbeb2923ac7cf733dd8ff65501b1a5", func := "curtilage/curtilagelaw07.CpuLess", spec := "cpuLess", unfollowed := true, recurses := true, named := ["curtilage/isa.bare", "curtilage/isa.names"], apart := false, laid := [("curtilage/isa.names", laid_curtilage_isa_names), ("curtilage/isa.bare", laid_curtilage_isa_bare)], narrowed := true }
def CpuLessUptoSaid : Prop := cpuLessUptoRow.holds Tryz.pinned (OpenSpec.upto cpuLessSpec)

/-- 'curtilagelaw07.CpuSpared', WHERE WHAT IT READS IS OF BULK AT MOST 1048576: true; the input reads as it did. -/
def cpuSparedUptoRow : OpenClaim := { program := "ytegoddghfjfibaagreatdoor", sum := "f2a128bd2df9176823b2175c75a11adbc0cbeb2923ac7cf733dd8ff65501b1a5", func := "curtilage/curtilagelaw07.CpuSpared", spec := "cpuSpared", unfollowed := true, recurses := true, named := ["curtilage/isa.bare", "curtilage/isa.names"], apart := false, laid := [("curtilage/isa.names", laid_curtilage_isa_names), ("curtilage/isa.bare", laid_curtilage_isa_bare)], narrowed := true }
def CpuSparedUptoSaid : Prop := cpuSparedUptoRow.holds Tryz.pinned (OpenSpec.upto cpuSparedSpec)

/-- 'curtilagelaw07.CpuOutside', WHERE WHAT IT READS IS OF BULK AT MOST 1048576: true; the input reads as it did. -/
def cpuOutsideUptoRow : OpenClaim := { program := "ytegoddghfjfibaagreatdoor", sum := "f2a128bd2df9176823b2175c75a11adbc0cbeb2923ac7cf733dd8ff65501b1a5", func := "curtilage/curtilagelaw07.CpuOutside", spec := "cpuOutside", unfollowed := true, recurses := true, named := ["curtilage/isa.bare", "curtilage/isa.names"], apart := false, laid := [("curtilage/isa.names", laid_curtilage_isa_names), ("curtilage/isa.bare", laid_curtilage_isa_bare)], narrowed := true }
def CpuOutsideUptoSaid : Prop := cpuOutsideUptoRow.holds Tryz.pinned (OpenSpec.upto cpuOutsideSpec)

/-- 'curtilagelaw07.CpuZero', WHERE WHAT IT READS IS OF BULK AT MOST 1048576: true; the input reads as it did. -/
def cpuZeroUptoRow : OpenClaim := { program := "ytegoddghfjfibaagreatdoor", sum := "f2a128bd2df9176823b2175c75a11adbc0cbeb2923ac7cf733dd8ff65501b1a5", func := "curtilage/curtilagelaw07.CpuZero", spec := "cpuZero", unfollowed := true, recurses := true, named := ["curtilage/isa.bare", "curtilage/isa.names"], apart := false, laid := [("curtilage/isa.names", laid_curtilage_isa_names), ("curtilage/isa.bare", laid_curtilage_isa_bare)], narrowed := true }
def CpuZeroUptoSaid : Prop := cpuZeroUptoRow.holds Tryz.pinned (OpenSpec.upto cpuZeroSpec)

/-- 'curtilagelaw07.CpuNothing', WHERE WHAT IT READS IS OF BULK AT MOST 1048576: true; the input reads as it did. -/
def cpuNothingUptoRow : OpenClaim := { program := "ytegoddghfjfibaagreatdoor", sum := "f2a128bd2df9176823b2175c75a11adbc0cbeb2923ac7cf733dd8ff65501b1a5", func := "curtilage/curtilagelaw07.CpuNothing", spec := "cpuNothing", unfollowed := true, recurses := true, named := ["curtilage/isa.bare", "curtilage/isa.names"], apart := false, laid := [("curtilage/isa.names", laid_curtilage_isa_names), ("curtilage/isa.bare", laid_curtilage_isa_bare)], narrowed := true }
def CpuNothingUptoSaid : Prop := cpuNothingUptoRow.holds Tryz.pinned (OpenSpec.upto cpuNothingSpec)

end Rows
end Go.Proofs.YtegoddghfjfibaaGreatDoor
