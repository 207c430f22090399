/- The laws of counts and edges, walked. -/
import Derived.Test.YtmnaopdgdlineaaRnG
namespace Go.Proofs.Ytmnaopdgdlineaa
open Go.RowKit
set_option maxRecDepth 100000 in
set_option maxHeartbeats 1000000 in
theorem lawCounts (s : ByteArray) (n : Int) (w : World) (hs : s.size ≤ maxLen) (hn : n ≤ 2 ^ 63 - 1) : Calls Try.prog 5 #[.string s, .int .i64 n] w fun e w' => e = .returned (.bool true) ∧ Below w.heap.size w w' := by
  unfold maxLen at hs
  by_cases hl : (500 : Int) < s.size
  · go_enter Try.func5, Try.ntmps5
    go_wp2_with (go_at_call 7; refine (alive_any _).mono ?_; rintro e w1 ⟨rfl, hb⟩)
    go_ret
    exact ⟨rfl, hb⟩
  have hcut := fun w' => cut_any s n w' (by unfold maxLen; omega) hn
  by_cases h0 : n < 0
  · have e : Rn.cut s n = 0 := by unfold Rn.cut; rw [if_pos h0]
    rw [e] at hcut
    have HC := Lib.hid hcut; clear hcut e
    rcases Bool.eq_false_or_eq_true (Rn.edgeB s 0) with hf | hf
    all_goals
      go_enter Try.func5, Try.ntmps5
      go_wp2_with (first | (go_at_call 7; refine (alive_any _).mono ?_; rintro e w1 ⟨rfl, hb⟩) | (go_at_call 19; refine (HC.out _).mono ?_; rintro e w' ⟨rfl, rfl⟩) | (go_at_call 16; refine (refEdge_any _ _ _ (by unfold maxLen; omega)).mono ?_; rintro e w' ⟨rfl, rfl⟩) | (go_at_call 20; refine (count_any _ _ (by unfold maxLen; omega)).mono ?_; rintro e w' ⟨rfl, rfl⟩) | (go_at_call 21; refine (refCount_any _ _ (by unfold maxLen; omega)).mono ?_; rintro e w' ⟨rfl, rfl⟩))
      go_ret
      exact ⟨rfl, hb⟩
  · have hc1 := Rn.cut_le s n
    have hc2 := Rn.cut_edge s n (by omega)
    have hc3 := Rn.cut_cnt s n (by omega)
    generalize Rn.cut s n = k at hcut hc1 hc2 hc3
    have HC := Lib.hid hcut; clear hcut
    obtain ⟨hc4, hc5⟩ := hc3
    have h5 : ((k : Int) == s.size) = true ∨ (((k : Int) == s.size) = false ∧ (Rn.cnt (s.data.toList.take k) == n) = true) := by
      rcases hc5 with h | h
      · left; rw [beq_iff_eq]; omega
      · by_cases e : k = s.size
        · left; rw [beq_iff_eq]; omega
        · right; exact ⟨beq_eq_false_iff_ne.2 (by omega), by rw [beq_iff_eq]; exact h⟩
    clear hc5
    rcases h5 with h5 | ⟨h5, h6⟩
    all_goals
      go_enter Try.func5, Try.ntmps5
      go_wp2_with (first | (go_at_call 7; refine (alive_any _).mono ?_; rintro e w1 ⟨rfl, hb⟩) | (go_at_call 19; refine (HC.out _).mono ?_; rintro e w' ⟨rfl, rfl⟩) | (go_at_call 16; refine (refEdge_any _ _ _ (by unfold maxLen; omega)).mono ?_; rintro e w' ⟨rfl, rfl⟩) | (go_at_call 20; refine (count_any _ _ (by unfold maxLen; omega)).mono ?_; rintro e w' ⟨rfl, rfl⟩) | (go_at_call 21; refine (refCount_any _ _ (by unfold maxLen; simp; omega)).mono ?_; rintro e w' ⟨rfl, rfl⟩))
      go_ways
      go_ret
      exact ⟨rfl, hb⟩
end Go.Proofs.Ytmnaopdgdlineaa
