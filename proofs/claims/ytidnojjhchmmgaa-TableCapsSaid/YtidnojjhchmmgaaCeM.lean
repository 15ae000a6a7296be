/- What the reader reads of symbols and segments: contracts. -/
import Derived.Test.YtidnojjhchmmgaaCeL
import Derived.Deep.RegionHeld3
import Derived.Deep.Cut
import Derived.BigRegion
namespace Go.Proofs.Ytidnojjhchmmgaa
set_option linter.unusedVariables false
set_option linter.unusedSimpArgs false
open Go.Joins Go.ChangeShapes Go.WideShapes Go.ChangeAt Go.RowKit Go.Deep

def symP (s : St) : Sym × St :=
  let a := textP s; let b := textP a.2; let c := numP 4 b.2; let d := numP 4 c.2; let e := numP 1 d.2; let f := numP 1 e.2; let g := numP 1 f.2; let h := numP 1 g.2
  (⟨a.1, b.1, (c.1 : Int), (d.1 : Int), (e.1 : Int), (f.1 : Int), (g.1 : Int), decide ((h.1 : Int) = 1)⟩, if h.2.wrong = 0 ∧ 1 < h.1 then ⟨h.2.rest, 106⟩ else h.2)
end Go.Proofs.Ytidnojjhchmmgaa
