/- What 'At', 'Lines', 'Signs' and 'Line' answer, walked. -/
import Derived.Test.YtnjcahcbeicblaaRpO
namespace Go.Proofs.Ytnjcahcbeicblaa
set_option linter.unusedVariables false
set_option linter.unusedSimpArgs false
open Go.RowKit
open Rp (Tr)
set_option maxHeartbeats 400000 in
theorem clAt_any (c : Nat) (i x y z : Int) (w : World) (hc : w.cell? ⟨c, 0, none⟩ = some (.int .i64 i)) : Calls Try.prog 72 #[.agg #[.int .i64 x, .int .i64 y, .int .i64 z], .pointer (some ⟨c, 0, none⟩)] w (Rp.BPost w (decide (i < x))) := by
  have lt : c < w.heap.size := World.block_lt_of_cell? w _ hc
  go_enter Try.func72, Try.ntmps72
  go_wp2
  all_goals
    go_ret
    exact ⟨ret_bool (by simp [*]), Rp.below_al _ _⟩
set_option maxHeartbeats 400000 in
theorem clAhead_any (c : Nat) (i x y z : Int) (w : World) (hc : w.cell? ⟨c, 0, none⟩ = some (.int .i64 i)) : Calls Try.prog 77 #[.agg #[.int .i64 x, .int .i64 y, .int .i64 z], .pointer (some ⟨c, 0, none⟩)] w (Rp.BPost w (decide (i < x))) := by
  have lt : c < w.heap.size := World.block_lt_of_cell? w _ hc
  go_enter Try.func77, Try.ntmps77
  go_wp2
  all_goals
    go_ret
    exact ⟨ret_bool (by simp [*]), Rp.below_al _ _⟩
set_option maxHeartbeats 400000 in
theorem clLine_any (c : Nat) (i x y z : Int) (w : World) (hc : w.cell? ⟨c, 0, none⟩ = some (.int .i64 i)) : Calls Try.prog 61 #[.agg #[.int .i64 x, .int .i64 y, .int .i64 z], .pointer (some ⟨c, 0, none⟩)] w (Rp.BPost w (decide (i ≤ y))) := by
  have lt : c < w.heap.size := World.block_lt_of_cell? w _ hc
  go_enter Try.func61, Try.ntmps61
  go_wp2
  all_goals
    go_ret
    exact ⟨ret_bool (by simp [*]), Rp.below_al _ _⟩
theorem entAt : ∀ args w, (callFunc 72 args).run Try.prog w = .ok (.enter 72 args) w := enters_of Try.func72 (by kernel_rfl) rfl
theorem entAhead : ∀ args w, (callFunc 77 args).run Try.prog w = .ok (.enter 77 args) w := enters_of Try.func77 (by kernel_rfl) rfl
theorem entLine : ∀ args w, (callFunc 61 args).run Try.prog w = .ok (.enter 61 args) w := enters_of Try.func61 (by kernel_rfl) rfl
end Go.Proofs.Ytnjcahcbeicblaa
