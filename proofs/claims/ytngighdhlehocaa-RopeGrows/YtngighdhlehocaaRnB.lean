/- What the functions of layer 1 that go through a text answer, walked. -/
import Derived.Test.YtngighdhlehocaaRnA
namespace Go.Proofs.Ytngighdhlehocaa
set_option linter.unusedVariables false
set_option linter.unusedSimpArgs false
open Go.RowKit
set_option maxHeartbeats 400000 in
theorem count_any (s : ByteArray) (w : World) (hs : s.size ≤ maxLen) : Calls Try.prog 59 #[.string s] w fun e w' => e = .returned (.int .i64 (Rn.cnt s.data.toList)) ∧ w = w' := by
  unfold maxLen at hs
  go_enter Try.func59, Try.ntmps59
  go_wp2
  go_loop [3, 7] (fun n i => ∃ k : Nat, k ≤ s.size ∧ i = .int .i64 k ∧ n = .int .i64 (Rn.cnt (s.data.toList.take k))) (fun _ i => s.size - (intOf i).toNat)
  case atStart => exact ⟨0, Nat.zero_le _, rfl, rfl⟩
  case round =>
    obtain ⟨k, hk, rfl, rfl⟩ := hrel
    have hd := Rn.cnt_bd (s.data.toList.take k)
    have hl : (s.data.toList.take k).length ≤ k := List.length_take_le _ _
    by_cases hlt : k < s.size
    · have hsn := Rn.cnt_snoc (s.data.toList.take k) s[k]
      rw [← Rn.take_snoc s k hlt] at hsn
      rcases Bool.eq_false_or_eq_true (Rn.folI ↑s[k].toNat) with hf | hf
      all_goals
        rw [hf] at hsn
        have HS := Lib.hid hsn; clear hsn
        go_wp2_with (go_at_call 65; refine (follower_any _ _).mono ?_; rintro e w' ⟨rfl, rfl⟩)
        go_round
        case rel => exact ⟨k + 1, by omega, by go_num, by rw [HS.out]; simp⟩
        case measure => simp [intOf]; omega
    · go_wp2
      go_ret
      exact ⟨ret_int (by rw [Rn.take_all s k hlt]), rfl⟩
set_option maxHeartbeats 400000 in
theorem refCount_any (s : ByteArray) (w : World) (hs : s.size ≤ maxLen) : Calls Try.prog 45 #[.string s] w fun e w' => e = .returned (.int .i64 (Rn.cnt s.data.toList)) ∧ w = w' := by
  unfold maxLen at hs
  go_enter Try.func45, Try.ntmps45
  go_wp2
  go_loop [3, 4] (fun n i => ∃ k : Nat, k ≤ s.size ∧ i = .int .i64 k ∧ n = .int .i64 (Rn.cnt (s.data.toList.take k))) (fun _ i => s.size - (intOf i).toNat)
  case atStart => exact ⟨0, Nat.zero_le _, rfl, rfl⟩
  case round =>
    obtain ⟨k, hk, rfl, rfl⟩ := hrel
    have hd := Rn.cnt_bd (s.data.toList.take k)
    have hl : (s.data.toList.take k).length ≤ k := List.length_take_le _ _
    by_cases hlt : k < s.size
    · have hsn := Rn.cnt_snoc (s.data.toList.take k) s[k]
      rw [← Rn.take_snoc s k hlt] at hsn
      rcases Bool.eq_false_or_eq_true (Rn.folI ↑s[k].toNat) with hf | hf
      all_goals
        rw [hf] at hsn
        have HS := Lib.hid hsn; clear hsn
        go_wp2_with (go_at_call 54; refine (refFollower_any _ _).mono ?_; rintro e w' ⟨rfl, rfl⟩)
        go_round
        case rel => exact ⟨k + 1, by omega, by go_num, by rw [HS.out]; simp⟩
        case measure => simp [intOf]; omega
    · go_wp2
      go_ret
      exact ⟨ret_int (by rw [Rn.take_all s k hlt]), rfl⟩
end Go.Proofs.Ytngighdhlehocaa
