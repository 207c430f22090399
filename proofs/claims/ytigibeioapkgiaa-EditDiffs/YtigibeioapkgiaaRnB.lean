/- What the functions of layer 1 that go through a text answer, walked. -/
import Derived.Test.YtigibeioapkgiaaRnA
namespace Go.Proofs.Ytigibeioapkgiaa
set_option linter.unusedVariables false
set_option linter.unusedSimpArgs false
open Go.RowKit
set_option maxHeartbeats 400000 in
theorem count_any (s : ByteArray) (w : World) (hs : s.size ≤ maxLen) : Calls Try.prog 69 #[.string s] w fun e w' => e = .returned (.int .i64 (Rn.cnt s.data.toList)) ∧ w = w' := by
  unfold maxLen at hs
  go_enter Try.func69, Try.ntmps69
  go_wp2
  go_loop [3, 7] (fun n i => ∃ k : Nat, k ≤ s.size ∧ i = .int .i64 k ∧ n = .int .i64 (Rn.cnt (s.data.toList.take k))) (fun _ i => s.size - (intOf i).toNat)
  case atStart => exact ⟨0, Nat.zero_le _, rfl, rfl⟩
  case round =>
    obtain ⟨k, hk, rfl, rfl⟩ := hrel
    have hd := Rn.cnt_bd (s.data.toList.take k)
    have hl : (s.data.toList.take k).length ≤ k := List.length_take_le _ _
    by_cases hlt : k < s.size
    · have hsn := Rn.cnt_snoc (s.data.toList.take k) s[k]
      rw [← Rn.take_snoc s k hlt] at hsn
      rcases Bool.eq_false_or_eq_true (Rn.folI ↑s[k].toNat) with hf | hf
      all_goals
        rw [hf] at hsn
        have HS := Lib.hid hsn; clear hsn
        go_wp2_with (go_at_call 67; refine (follower_any _ _).mono ?_; rintro e w' ⟨rfl, rfl⟩)
        go_round
        case rel => exact ⟨k + 1, by omega, by go_num, by rw [HS.out]; simp⟩
        case measure => simp [intOf]; omega
    · go_wp2
      go_ret
      exact ⟨ret_int (by rw [Rn.take_all s k hlt]), rfl⟩
set_option maxHeartbeats 400000 in
theorem edge_any (s : ByteArray) (i : Int) (w : World) (hs : s.size ≤ maxLen) : Calls Try.prog 55 #[.string s, .int .i64 i] w fun e w' => e = .returned (.bool (Rn.edgeB s i)) ∧ w = w' := by
  unfold maxLen at hs
  by_cases h : 0 ≤ i ∧ i < s.size
  · have e : Rn.edgeB s i = !Rn.folI (s[i.toNat]).toNat := by unfold Rn.edgeB; rw [dif_pos h]
    rw [e]; clear e
    obtain ⟨h1, h2⟩ := h
    obtain ⟨k, rfl⟩ := Int.eq_ofNat_of_zero_le h1
    have h3 : ((k : Int) == (s.size : Int)) = false := beq_eq_false_iff_ne.2 (by omega)
    have h4 : k < s.size := by omega
    go_enter Try.func55, Try.ntmps55
    go_wp2_with (go_at_call 67; refine (follower_any _ _).mono ?_; rintro e w' ⟨rfl, rfl⟩)
    go_ret
    exact ⟨rfl, rfl⟩
  · have e : Rn.edgeB s i = decide (i = s.size) := by unfold Rn.edgeB; rw [dif_neg h]
    rw [e]; clear e
    by_cases h1 : i < 0
    · go_enter Try.func55, Try.ntmps55
      go_wp2
      go_ret
      exact ⟨ret_bool (by simp; omega), rfl⟩
    · by_cases h2 : i = s.size
      · subst h2
        clear h h1
        go_enter Try.func55, Try.ntmps55
        go_wp2
        go_ret
        exact ⟨ret_bool (by simp), rfl⟩
      · have h3 : (s.size : Int) < i := by omega
        clear h
        go_enter Try.func55, Try.ntmps55
        go_wp2
        go_ret
        exact ⟨ret_bool (by simp), rfl⟩
set_option maxHeartbeats 400000 in
theorem refEdge_any (s : ByteArray) (i : Int) (w : World) (hs : s.size ≤ maxLen) : Calls Try.prog 25 #[.string s, .int .i64 i] w fun e w' => e = .returned (.bool (Rn.edgeB s i)) ∧ w = w' := by
  unfold maxLen at hs
  by_cases h : 0 ≤ i ∧ i < s.size
  · have e : Rn.edgeB s i = !Rn.folI (s[i.toNat]).toNat := by unfold Rn.edgeB; rw [dif_pos h]
    rw [e]; clear e
    obtain ⟨h1, h2⟩ := h
    obtain ⟨k, rfl⟩ := Int.eq_ofNat_of_zero_le h1
    have h3 : ((k : Int) == (s.size : Int)) = false := beq_eq_false_iff_ne.2 (by omega)
    have h4 : k < s.size := by omega
    go_enter Try.func25, Try.ntmps25
    go_wp2_with (go_at_call 44; refine (refFollower_any _ _).mono ?_; rintro e w' ⟨rfl, rfl⟩)
    go_ret
    exact ⟨rfl, rfl⟩
  · have e : Rn.edgeB s i = decide (i = s.size) := by unfold Rn.edgeB; rw [dif_neg h]
    rw [e]; clear e
    by_cases h1 : i < 0
    · go_enter Try.func25, Try.ntmps25
      go_wp2
      go_ret
      exact ⟨ret_bool (by simp; omega), rfl⟩
    · by_cases h2 : i = s.size
      · subst h2
        clear h h1
        go_enter Try.func25, Try.ntmps25
        go_wp2
        go_ret
        exact ⟨ret_bool (by simp), rfl⟩
      · have h3 : (s.size : Int) < i := by omega
        clear h
        go_enter Try.func25, Try.ntmps25
        go_wp2
        go_ret
        exact ⟨ret_bool (by simp), rfl⟩
end Go.Proofs.Ytigibeioapkgiaa
