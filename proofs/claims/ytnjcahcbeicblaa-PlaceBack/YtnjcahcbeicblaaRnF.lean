/- What the document's 'First' answers, walked. -/
import Derived.Test.YtnjcahcbeicblaaRnE
import Derived.Test.YtnjcahcbeicblaaRnP
import Derived.Deep.RegionHeld3
namespace Go.Proofs.Ytnjcahcbeicblaa
set_option linter.unusedVariables false
set_option linter.unusedSimpArgs false
open Go.RowKit
/-- nothing was found of fewer bytes -/
def NoneTo (s : ByteArray) (j : Nat) : Prop := ∀ i : Nat, 1 ≤ i → i < j → i ≤ s.data.toList.length → Rn.nope s.data.toList i
theorem NoneTo.on {s : ByteArray} {j : Nat} (h : NoneTo s j) (hn : Rn.nope s.data.toList j) : NoneTo s (j + 1) := by
  intro i h1 h2 h3
  by_cases e : i = j
  · subst e; exact hn
  · exact h i h1 (by omega) h3
theorem NoneTo.all {s : ByteArray} {j : Nat} (h : NoneTo s j) (hj : 5 ≤ j ∨ s.size < j) : Rn.firstL s.data.toList = (-1, 0) :=
  Rn.first_none _ fun k h1 h2 h3 => h k h1 (by rw [Rn.len_data] at h3; omega) h3
end Go.Proofs.Ytnjcahcbeicblaa
