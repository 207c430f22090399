/- What the functions of layer 1 that go through a text answer, walked. -/
import Derived.Test.YtndenipjiclkaaaRnA
namespace Go.Proofs.Ytndenipjiclkaaa
set_option linter.unusedVariables false
set_option linter.unusedSimpArgs false
open Go.RowKit
end Go.Proofs.Ytndenipjiclkaaa
