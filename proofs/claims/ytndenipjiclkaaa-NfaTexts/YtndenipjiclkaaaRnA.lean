/- What the small functions of layer 1 answer, walked. -/
import Derived.Test.YtndenipjiclkaaaRows
import Derived.Test.YtndenipjiclkaaaRnQ
import Derived.WalkKit
import Derived.WalkSpells
import Derived.WalkLawsBesides
import Derived.Lib.Hide
namespace Go.Proofs.Ytndenipjiclkaaa
set_option linter.unusedVariables false
set_option linter.unusedSimpArgs false
open Go.RowKit
theorem ret_bool {a b : Bool} (h : a = b) : Ending.returned (.bool a) = .returned (.bool b) := by rw [h]
theorem ret_int {k : IntKind} {a b : Int} (h : a = b) : Ending.returned (.int k a) = .returned (.int k b) := by rw [h]
set_option maxHeartbeats 400000 in
theorem follower_any (n : Int) (w : World) : Calls Try.prog 95 #[.int .u8 n] w fun e w' => e = .returned (.bool (Rn.folI n)) ∧ w = w' := by
  go_enter Try.func95, Try.ntmps95
  go_wp2
  all_goals (go_ret; refine ⟨ret_bool ?_, rfl⟩; first | (simp [Rn.folI, *]; done) | (simp [Rn.folI, *]; omega))
set_option maxHeartbeats 400000 in
theorem size_any (n : Int) (w : World) : Calls Try.prog 96 #[.int .i64 n] w fun e w' => e = .returned (.int .i64 (Rn.sizeI n)) ∧ w = w' := by
  go_enter Try.func96, Try.ntmps96
  go_wp2
  all_goals (go_ret; refine ⟨ret_int ?_, rfl⟩; unfold Rn.sizeI; (repeat' split) <;> first | rfl | omega)
set_option maxHeartbeats 400000 in
theorem lead_any (n : Int) (w : World) : Calls Try.prog 94 #[.int .i64 n] w fun e w' => e = .returned (.int .i64 (Rn.leadI n)) ∧ w = w' := by
  go_enter Try.func94, Try.ntmps94
  go_wp2
  all_goals (go_ret; refine ⟨ret_int ?_, rfl⟩; simp_all [Rn.leadI])
set_option maxHeartbeats 400000 in
theorem promised_any (n : Int) (w : World) : Calls Try.prog 93 #[.int .u8 n] w fun e w' => e = .returned (.int .i64 (Rn.promI n)) ∧ w = w' := by
  go_enter Try.func93, Try.ntmps93
  go_wp2
  all_goals (go_ret; refine ⟨ret_int ?_, rfl⟩; unfold Rn.promI; (repeat' split) <;> first | rfl | omega)
end Go.Proofs.Ytndenipjiclkaaa
