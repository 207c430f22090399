/- What 'At', 'Lines', 'Signs' and 'Line' answer, walked. -/
import Derived.Test.YtngighdhlehocaaRpO
namespace Go.Proofs.Ytngighdhlehocaa
set_option linter.unusedVariables false
set_option linter.unusedSimpArgs false
open Go.RowKit
open Rp (Tr)
set_option maxHeartbeats 400000 in
theorem clAt_any (c : Nat) (i x y z : Int) (w : World) (hc : w.cell? ⟨c, 0, none⟩ = some (.int .i64 i)) : Calls Try.prog 44 #[.agg #[.int .i64 x, .int .i64 y, .int .i64 z], .pointer (some ⟨c, 0, none⟩)] w (Rp.BPost w (decide (i < x))) := by
  have lt : c < w.heap.size := World.block_lt_of_cell? w _ hc
  go_enter Try.func44, Try.ntmps44
  go_wp2
  all_goals
    go_ret
    exact ⟨ret_bool (by simp [*]), Rp.below_al _ _⟩
set_option maxHeartbeats 400000 in
theorem clAhead_any (c : Nat) (i x y z : Int) (w : World) (hc : w.cell? ⟨c, 0, none⟩ = some (.int .i64 i)) : Calls Try.prog 51 #[.agg #[.int .i64 x, .int .i64 y, .int .i64 z], .pointer (some ⟨c, 0, none⟩)] w (Rp.BPost w (decide (i < x))) := by
  have lt : c < w.heap.size := World.block_lt_of_cell? w _ hc
  go_enter Try.func51, Try.ntmps51
  go_wp2
  all_goals
    go_ret
    exact ⟨ret_bool (by simp [*]), Rp.below_al _ _⟩
set_option maxHeartbeats 400000 in
theorem clLine_any (c : Nat) (i x y z : Int) (w : World) (hc : w.cell? ⟨c, 0, none⟩ = some (.int .i64 i)) : Calls Try.prog 36 #[.agg #[.int .i64 x, .int .i64 y, .int .i64 z], .pointer (some ⟨c, 0, none⟩)] w (Rp.BPost w (decide (i ≤ y))) := by
  have lt : c < w.heap.size := World.block_lt_of_cell? w _ hc
  go_enter Try.func36, Try.ntmps36
  go_wp2
  all_goals
    go_ret
    exact ⟨ret_bool (by simp [*]), Rp.below_al _ _⟩
theorem entAt : ∀ args w, (callFunc 44 args).run Try.prog w = .ok (.enter 44 args) w := enters_of Try.func44 (by kernel_rfl) rfl
theorem entAhead : ∀ args w, (callFunc 51 args).run Try.prog w = .ok (.enter 51 args) w := enters_of Try.func51 (by kernel_rfl) rfl
theorem entLine : ∀ args w, (callFunc 36 args).run Try.prog w = .ok (.enter 36 args) w := enters_of Try.func36 (by kernel_rfl) rfl
end Go.Proofs.Ytngighdhlehocaa
