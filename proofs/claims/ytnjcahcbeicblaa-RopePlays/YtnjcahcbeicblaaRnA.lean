/- What the small functions of layer 1 answer, walked. -/
import Derived.Test.YtnjcahcbeicblaaRows
import Derived.Test.YtnjcahcbeicblaaRnM
import Derived.WalkKit
import Derived.WalkSpells
import Derived.WalkLawsBesides
import Derived.Lib.Hide
namespace Go.Proofs.Ytnjcahcbeicblaa
set_option linter.unusedVariables false
set_option linter.unusedSimpArgs false
open Go.RowKit
theorem ret_bool {a b : Bool} (h : a = b) : Ending.returned (.bool a) = .returned (.bool b) := by rw [h]
theorem ret_int {k : IntKind} {a b : Int} (h : a = b) : Ending.returned (.int k a) = .returned (.int k b) := by rw [h]
set_option maxHeartbeats 400000 in
theorem follower_any (n : Int) (w : World) : Calls Try.prog 73 #[.int .u8 n] w fun e w' => e = .returned (.bool (Rn.folI n)) ∧ w = w' := by
  go_enter Try.func73, Try.ntmps73
  go_wp2
  all_goals (go_ret; refine ⟨ret_bool ?_, rfl⟩; first | (simp [Rn.folI, *]; done) | (simp [Rn.folI, *]; omega))
set_option maxHeartbeats 400000 in
theorem refFollower_any (n : Int) (w : World) : Calls Try.prog 55 #[.int .u8 n] w fun e w' => e = .returned (.bool (Rn.folI n)) ∧ w = w' := by
  go_enter Try.func55, Try.ntmps55
  go_wp2
  all_goals (go_ret; refine ⟨ret_bool ?_, rfl⟩; first | (simp [Rn.folI, *]; done) | (simp [Rn.folI, *]; omega))
set_option maxHeartbeats 400000 in
theorem sign_any (n : Int) (w : World) : Calls Try.prog 59 #[.int .i64 n] w fun e w' => e = .returned (.bool (Rn.signI n)) ∧ w = w' := by
  go_enter Try.func59, Try.ntmps59
  go_wp2
  all_goals (go_ret; refine ⟨ret_bool ?_, rfl⟩; first | (simp [Rn.signI, *]; done) | (simp [Rn.signI, *]; omega))
end Go.Proofs.Ytnjcahcbeicblaa
