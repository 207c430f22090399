/- Sets held against each other. -/
import Derived.Test.YtaaialodlibhaaaDoorBsG
namespace Go.Proofs.YtaaialodlibhaaaDoor
set_option linter.unusedVariables false
set_option linter.unusedSimpArgs false
open Go.RowKit
/-- do two sets have the same bytes? -/
def Bs.same (f g : Nat → Bool) : Bool := (List.range 256).all fun c => f c == g c
theorem Bs.same_iff {f g : Nat → Bool} : Bs.same f g = true ↔ ∀ c, c < 256 → f c = g c := by simp [Bs.same]
theorem Bs.eq_run (f g : Nat → Bool) (w : World) : (Op.equalIn 10000 26 (.agg #[.int .u64 (Bs.word f 0), .int .u64 (Bs.word f 1), .int .u64 (Bs.word f 2), .int .u64 (Bs.word f 3)]) (.agg #[.int .u64 (Bs.word g 0), .int .u64 (Bs.word g 1), .int .u64 (Bs.word g 2), .int .u64 (Bs.word g 3)])).run Tryd.prog w = .ok (Bs.same f g) w := by
  obtain ⟨r, hr, hiff⟩ := run_equal_deep (P := Tryd.prog) w (m := 2) (by omega) (k := 26) (by kernel_rfl) Bs.wideSet (Bs.keyOf_val f) (Bs.keyOf_val g)
  have e : r = Bs.same f g := by
    rw [Bool.eq_iff_iff, hiff, Bs.same_iff]
    exact ⟨fun h c hc => Bs.val_inj (Bs.key_inj h) c hc, fun h => Bs.key_congr (Bs.val_congr h)⟩
  rw [← e]
  exact hr
theorem Bs.eq_none (f : Nat → Bool) (w : World) : (Op.equalIn 10000 26 (.agg #[.int .u64 (Bs.word f 0), .int .u64 (Bs.word f 1), .int .u64 (Bs.word f 2), .int .u64 (Bs.word f 3)]) (.agg #[.int .u64 0, .int .u64 0, .int .u64 0, .int .u64 0])).run Tryd.prog w = .ok (Bs.same f fun _ => false) w := by
  have h := Bs.eq_run f (fun _ => false) w
  simp only [Bs.word_none] at h
  exact h
end Go.Proofs.YtaaialodlibhaaaDoor
