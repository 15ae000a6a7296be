/- What a program begins with: Build's answers, in plain mathematics. -/
import Derived.Test.YtjefkhieihigiaaGreatAbT
namespace Go.Proofs.YtjefkhieihigiaaGreat
set_option linter.unusedVariables false
set_option linter.unusedSimpArgs false
open Go

end Go.Proofs.YtjefkhieihigiaaGreat
