/- What the functions of layer 1 that go through a text answer, walked. -/
import Derived.Test.YtigdelfoipcilaaRnA
namespace Go.Proofs.Ytigdelfoipcilaa
set_option linter.unusedVariables false
set_option linter.unusedSimpArgs false
open Go.RowKit
end Go.Proofs.Ytigdelfoipcilaa
