/-
  No cell of these rows narrows 'for every input' (looked for: loops, veiled, ifaces, maps, wideKeys, modest, calm, conditions, laid).
  DERIVED. THE GIVEN ROWS OF THIS SEAT. 4 by the template 'for every input the law returns true; each argument reads behind the call as it read before'; 0 by the template 'total and deterministic' (their statements: YtknldomgmogccaaTotals.lean).
  GIVEN WITH THE SEED: the statements are not yours to turn. If you find one false, say at which input.
  Laid BY PROGRAM, IN A SANDBOX (cutbox-rows.mjs): the forced cells as the released guide's own fill.sh prints them over the translation 519c530c3e9af7b0… (all of the seat's roots in one cut). By AI agents, Wed Nov 11 2026. No macro, syntax, notation, axiom, sorry.
-/
import Derived.Test.YtknldomgmogccaaChecked
import GoSem.Claim
import GoSem.ClaimJoined
import GoSem.ClaimMapViews
import Derived.JoinedTies
import Derived.KernelRfl
namespace Go.Proofs.Ytknldomgmogccaa
/- THE CELL 'sum', in the pinned program and in every row, IS THE sha256 OF THE DUMP (.gsa) THAT YtknldomgmogccaaProg.lean LOADS. Nothing in Lean hashes anything: it is a label: what it is worth is what the hold of that sum in a sandbox is worth. -/
noncomputable def Try.pinned : Pinned := { name := "ytknldomgmogccaa", sum := "519c530c3e9af7b0f35f8da35753e374883d819f7b88499c21d6d5959e1d68c7", checked := Try.checked }
namespace Rows
def none {H : Type} : Left H := { results := [], args := [] }

/-- 'curtilagelaw10.CelfParses': WHATEVER THE INPUT: true; the input reads as it did. -/
def celfParsesSpec : ChangeSpec := { name := "celfParses", fn := fun _ => fun
  | [d] => { results := [.lit (.bool true)], args := [d] }
  | _ => none }
def celfParsesRow : OpenClaim := { program := "ytknldomgmogccaa", sum := "519c530c3e9af7b0f35f8da35753e374883d819f7b88499c21d6d5959e1d68c7", func := "curtilage/curtilagelaw10.CelfParses", spec := "celfParses", unfollowed := true, recurses := true, apart := false }
def CelfParsesSaid : Prop := celfParsesRow.holds Try.pinned (OpenSpec.ofChange celfParsesSpec)

/-- ITS FALSE NEIGHBOUR: 'it returns false'. Refute it at one input. -/
def celfParsesWrong : ChangeSpec := { name := "celfParses", fn := fun _ => fun
  | [d] => { results := [.lit (.bool false)], args := [d] }
  | _ => none }
def CelfParsesWrongFalsely : Prop := celfParsesRow.holds Try.pinned (OpenSpec.ofChange celfParsesWrong)

/-- 'curtilagelaw10.CelfCut': WHATEVER THE INPUT: true; the input reads as it did. -/
def celfCutSpec : ChangeSpec := { name := "celfCut", fn := fun _ => fun
  | [d1, d2, d3] => { results := [.lit (.bool true)], args := [d1, d2, d3] }
  | _ => none }
def celfCutRow : OpenClaim := { program := "ytknldomgmogccaa", sum := "519c530c3e9af7b0f35f8da35753e374883d819f7b88499c21d6d5959e1d68c7", func := "curtilage/curtilagelaw10.CelfCut", spec := "celfCut", unfollowed := true, recurses := true, apart := false }
def CelfCutSaid : Prop := celfCutRow.holds Try.pinned (OpenSpec.ofChange celfCutSpec)

/-- ITS FALSE NEIGHBOUR: 'it returns false'. Refute it at one input. -/
def celfCutWrong : ChangeSpec := { name := "celfCut", fn := fun _ => fun
  | [d1, d2, d3] => { results := [.lit (.bool false)], args := [d1, d2, d3] }
  | _ => none }
def CelfCutWrongFalsely : Prop := celfCutRow.holds Try.pinned (OpenSpec.ofChange celfCutWrong)

/-- 'curtilagelaw10.CelfRight': WHATEVER THE INPUT: true; the input reads as it did. -/
def celfRightSpec : ChangeSpec := { name := "celfRight", fn := fun _ => fun
  | [d] => { results := [.lit (.bool true)], args := [d] }
  | _ => none }
def celfRightRow : OpenClaim := { program := "ytknldomgmogccaa", sum := "519c530c3e9af7b0f35f8da35753e374883d819f7b88499c21d6d5959e1d68c7", func := "curtilage/curtilagelaw10.CelfRight", spec := "celfRight", unfollowed := true, recurses := true, apart := false }
def CelfRightSaid : Prop := celfRightRow.holds Try.pinned (OpenSpec.ofChange celfRightSpec)

/-- ITS FALSE NEIGHBOUR: 'it returns false'. Refute it at one input. -/
def celfRightWrong : ChangeSpec := { name := "celfRight", fn := fun _ => fun
  | [d] => { results := [.lit (.bool false)], args := [d] }
  | _ => none }
def CelfRightWrongFalsely : Prop := celfRightRow.holds Try.pinned (OpenSpec.ofChange celfRightWrong)

/-- 'curtilagelaw10.CelfWithin': WHATEVER THE INPUT: true; the input reads as it did. -/
def celfWithinSpec : ChangeSpec := { name := "celfWithin", fn := fun _ => fun
  | [d] => { results := [.lit (.bool true)], args := [d] }
  | _ => none }
def celfWithinRow : OpenClaim := { program := "ytknldomgmogccaa", sum := "519c530c3e9af7b0f35f8da35753e374883d819f7b88499c21d6d5959e1d68c7", func := "curtilage/curtilagelaw10.CelfWithin", spec := "celfWithin", unfollowed := true, recurses := true, apart := false }
def CelfWithinSaid : Prop := celfWithinRow.holds Try.pinned (OpenSpec.ofChange celfWithinSpec)

/-- ITS FALSE NEIGHBOUR: 'it returns false'. Refute it at one input. -/
def celfWithinWrong : ChangeSpec := { name := "celfWithin", fn := fun _ => fun
  | [d] => { results := [.lit (.bool false)], args := [d] }
  | _ => none }
def CelfWithinWrongFalsely : Prop := celfWithinRow.holds Try.pinned (OpenSpec.ofChange celfWithinWrong)

/- THE SECOND FORM. 'bulk': how many values and letters a reading holds, each counted each time it is reached (what is shared counts as often as it is met; a slice's spare places count too). A statement '..UptoSaid' is the law's where the arguments, and the package variables that the reading takes, are together of bulk at most 1048576: NARROWER than '..Said'. Prove '..Said' where nothing that the law and all that it calls make is longer than what came in: it says more and counts as full. Else prove '..UptoSaid'. A law counts once. -/
mutual
def uptoBulk {H : Type} : DataW H → Nat
  | .lit (.string bytes) => bytes.length + 1
  | .lit _ => 1
  | .nil => 1
  | .ptr d => uptoBulk d + 1
  | .slice elems spare => uptoBulkAll elems + uptoBulkAll spare + 1
  | .agg parts => uptoBulkAll parts + 1
  | .iface _ d => uptoBulk d + 1
  | .map entries => uptoBulkEntries entries + 1
  | .held _ => 1
def uptoBulkAll {H : Type} : List (DataW H) → Nat
  | [] => 0
  | d :: r => uptoBulk d + uptoBulkAll r
def uptoBulkEntries {H : Type} : List (Lit × DataW H) → Nat
  | [] => 0
  | x :: r => uptoBulkEntry x + uptoBulkEntries r
def uptoBulkEntry {H : Type} : Lit × DataW H → Nat
  | (.string bytes, d) => bytes.length + uptoBulk d + 1
  | (_, d) => uptoBulk d + 1
 end
def uptoSmall : (H : Type) → List (DataW H) → Bool := fun _ ds => decide (uptoBulkAll ds ≤ 1048576)
def OpenSpec.upto (s : _root_.Go.ChangeSpec) : _root_.Go.OpenSpec := { _root_.Go.OpenSpec.ofChange s with cond := some uptoSmall }

/-- 'curtilagelaw10.CelfParses', WHERE WHAT IT READS IS OF BULK AT MOST 1048576: true; the input reads as it did. -/
def celfParsesUptoRow : OpenClaim := { program := "ytknldomgmogccaa", sum := "519c530c3e9af7b0f35f8da35753e374883d819f7b88499c21d6d5959e1d68c7", func := "curtilage/curtilagelaw10.CelfParses", spec := "celfParses", unfollowed := true, recurses := true, apart := false, narrowed := true }
def CelfParsesUptoSaid : Prop := celfParsesUptoRow.holds Try.pinned (OpenSpec.upto celfParsesSpec)

/-- 'curtilagelaw10.CelfCut', WHERE WHAT IT READS IS OF BULK AT MOST 1048576: true; the input reads as it did. -/
def celfCutUptoRow : OpenClaim := { program := "ytknldomgmogccaa", sum := "519c530c3e9af7b0f35f8da35753e374883d819f7b88499c21d6d5959e1d68c7", func := "curtilage/curtilagelaw10.CelfCut", spec := "celfCut", unfollowed := true, recurses := true, apart := false, narrowed := true }
def CelfCutUptoSaid : Prop := celfCutUptoRow.holds Try.pinned (OpenSpec.upto celfCutSpec)

/-- 'curtilagelaw10.CelfRight', WHERE WHAT IT READS IS OF BULK AT MOST 1048576: true; the input reads as it did. -/
def celfRightUptoRow : OpenClaim := { program := "ytknldomgmogccaa", sum := "519c530c3e9af7b0f35f8da35753e374883d819f7b88499c21d6d5959e1d68c7", func := "curtilage/curtilagelaw10.CelfRight", spec := "celfRight", unfollowed := true, recurses := true, apart := false, narrowed := true }
def CelfRightUptoSaid : Prop := celfRightUptoRow.holds Try.pinned (OpenSpec.upto celfRightSpec)

/-- 'curtilagelaw10.CelfWithin', WHERE WHAT IT READS IS OF BULK AT MOST 1048576: true; the input reads as it did. -/
def celfWithinUptoRow : OpenClaim := { program := "ytknldomgmogccaa", sum := "519c530c3e9af7b0f35f8da35753e374883d819f7b88499c21d6d5959e1d68c7", func := "curtilage/curtilagelaw10.CelfWithin", spec := "celfWithin", unfollowed := true, recurses := true, apart := false, narrowed := true }
def CelfWithinUptoSaid : Prop := celfWithinUptoRow.holds Try.pinned (OpenSpec.upto celfWithinSpec)

end Rows
end Go.Proofs.Ytknldomgmogccaa
