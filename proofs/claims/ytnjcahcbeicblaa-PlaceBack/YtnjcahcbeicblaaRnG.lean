/- What the document's 'Whole' answers, and that the examples hold, walked. -/
import Derived.Test.YtnjcahcbeicblaaRnF
namespace Go.Proofs.Ytnjcahcbeicblaa
set_option linter.unusedVariables false
set_option linter.unusedSimpArgs false
open Go.RowKit
theorem bthen {a b c : World} (h : Below a.heap.size a b) (h2 : Below b.heap.size b c) : Below a.heap.size a c := h.trans (h2.mono h.size)
theorem edge_ex (w : World) : Calls Try.prog 54 #[.string ⟨#[195, 169]⟩, .int .i64 1] w fun e w' => e = .returned (.bool false) ∧ w = w' := by
  have h := edge_any ⟨#[195, 169]⟩ 1 w (by decide)
  have e : Rn.edgeB (ByteArray.mk #[195, 169]) 1 = false := by decide
  rw [e] at h; exact h
theorem count_ex (w : World) : Calls Try.prog 85 #[.string ⟨#[97, 195, 169]⟩] w fun e w' => e = .returned (.int .i64 2) ∧ w = w' := by
  have h := count_any ⟨#[97, 195, 169]⟩ w (by decide)
  have e : Rn.cnt (ByteArray.mk #[97, 195, 169]).data.toList = 2 := by decide
  rw [e] at h; exact h
end Go.Proofs.Ytnjcahcbeicblaa
