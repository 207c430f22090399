/- The law of edges, walked. -/
import Derived.Test.YtmnaopdgdlineaaRnG
namespace Go.Proofs.Ytmnaopdgdlineaa
open Go.RowKit
set_option maxRecDepth 100000 in
set_option maxHeartbeats 2000000 in
theorem lawEdges (s : ByteArray) (i : Int) (w : World) (hs : s.size ≤ maxLen) : Calls Try.prog 4 #[.string s, .int .i64 i] w fun e w' => e = .returned (.bool true) ∧ Below w.heap.size w w' := by
  unfold maxLen at hs
  by_cases hl : (500 : Int) < s.size
  · go_enter Try.func4, Try.ntmps4
    go_wp2_with (go_at_call 7; refine (alive_any _).mono ?_; rintro e w1 ⟨rfl, hb⟩)
    go_ret
    exact ⟨rfl, hb⟩
  have hl2 : decide ((500 : Int) < s.size) = false := decide_eq_false hl
  have hnx : ∀ w', Calls Try.prog 17 #[.string s, .int .i64 i] w' fun e w'' => e = .returned (.int .i64 (if i < 0 then 0 else (Rn.nxU s i (s.size + 1) : Int))) ∧ w' = w'' := by
    intro w'
    have h := next_any s i w' (by unfold maxLen; omega)
    have e : ((Rn.next s i : Nat) : Int) = if i < 0 then 0 else (Rn.nxU s i (s.size + 1) : Int) := by unfold Rn.next; split <;> rfl
    rw [e] at h; exact h
  have hbk : ∀ w', Calls Try.prog 18 #[.string s, .int .i64 i] w' fun e w'' => e = .returned (.int .i64 (Rn.bkU s i (s.size + 1) : Int)) ∧ w' = w'' := fun w' => back_any s i w' (by unfold maxLen; omega)
  have HNX := Lib.hid hnx; clear hnx
  have HBK := Lib.hid hbk; clear hbk
  go_enter Try.func4, Try.ntmps4
  go_wp2_with (first | (go_at_call 7; refine (alive_any _).mono ?_; rintro e w1 ⟨rfl, hb⟩) | (go_at_call 15; refine (edge_any _ _ _ (by unfold maxLen; omega)).mono ?_; rintro e w' ⟨rfl, rfl⟩) | (go_at_call 16; refine (refEdge_any _ _ _ (by unfold maxLen; omega)).mono ?_; rintro e w' ⟨rfl, rfl⟩))
  go_loop [5, 7] (fun x k => ∃ t : Nat, t ≤ s.size + 1 ∧ k = .int .i64 ((s.size : Int) - t) ∧ x = .int .i64 (Rn.nxU s i t)) (fun _ k => (intOf k + 1).toNat)
  case atStart => exact ⟨0, by omega, by simp, rfl⟩
  case round =>
    obtain ⟨t, ht, rfl, rfl⟩ := hrel
    by_cases hlt : t ≤ s.size
    · have hn : Rn.nxU s i (t + 1) = if (Rn.edgeB s ((s.size : Int) - t) && decide (i < (s.size : Int) - t)) = true then s.size - t else Rn.nxU s i t := rfl
      have h0 : 0 ≤ (s.size : Int) - t := by omega
      rcases Bool.eq_false_or_eq_true (Rn.edgeB s ((s.size : Int) - t)) with hf | hf
      · rw [hf] at hn
        by_cases hi : i < (s.size : Int) - t
        · have hd : decide (i < (s.size : Int) - t) = true := decide_eq_true hi
          rw [hd] at hn
          have HN := Lib.hid hn; clear hn
          go_wp2_with (go_at_call 16; refine (refEdge_any _ _ _ (by unfold maxLen; omega)).mono ?_; rintro e w' ⟨rfl, rfl⟩)
          go_round
          case rel => exact ⟨t + 1, by omega, congrArg (Value.int .i64) (by omega), congrArg (Value.int .i64) (by rw [HN.out]; simp; omega)⟩
          case measure => simp [intOf]; omega
        · have hd : decide (i < (s.size : Int) - t) = false := decide_eq_false hi
          rw [hd] at hn
          have HN := Lib.hid hn; clear hn
          go_wp2_with (go_at_call 16; refine (refEdge_any _ _ _ (by unfold maxLen; omega)).mono ?_; rintro e w' ⟨rfl, rfl⟩)
          go_round
          case rel => exact ⟨t + 1, by omega, congrArg (Value.int .i64) (by omega), congrArg (Value.int .i64) (by rw [HN.out]; simp)⟩
          case measure => simp [intOf]; omega
      · rw [hf] at hn
        have HN := Lib.hid hn; clear hn
        go_wp2_with (go_at_call 16; refine (refEdge_any _ _ _ (by unfold maxLen; omega)).mono ?_; rintro e w' ⟨rfl, rfl⟩)
        go_round
        case rel => exact ⟨t + 1, by omega, congrArg (Value.int .i64) (by omega), congrArg (Value.int .i64) (by rw [HN.out]; simp)⟩
        case measure => simp [intOf]; omega
    · obtain rfl : t = s.size + 1 := by omega
      have hneg : ¬ (0 : Int) ≤ (s.size : Int) - ((s.size + 1 : Nat) : Int) := by omega
      go_wp2
      go_loop [6, 8] (fun x k => ∃ t : Nat, t ≤ s.size + 1 ∧ k = .int .i64 t ∧ x = .int .i64 (Rn.bkU s i t)) (fun _ k => (s.size + 1 - (intOf k).toNat))
      case atStart => exact ⟨0, by omega, rfl, rfl⟩
      case round =>
        obtain ⟨t, ht, rfl, rfl⟩ := hrel
        by_cases hlt : t ≤ s.size
        · have hn : Rn.bkU s i (t + 1) = if (Rn.edgeB s (t : Int) && decide ((t : Int) < i)) = true then t else Rn.bkU s i t := rfl
          rcases Bool.eq_false_or_eq_true (Rn.edgeB s (t : Int)) with hf | hf
          · rw [hf] at hn
            by_cases hi : (t : Int) < i
            · have hd : decide ((t : Int) < i) = true := decide_eq_true hi
              rw [hd] at hn
              have HN := Lib.hid hn; clear hn
              go_wp2_with (go_at_call 16; refine (refEdge_any _ _ _ (by unfold maxLen; omega)).mono ?_; rintro e w' ⟨rfl, rfl⟩)
              go_round
              case rel => exact ⟨t + 1, by omega, by go_num, congrArg (Value.int .i64) (by rw [HN.out]; simp)⟩
              case measure => simp [intOf]; omega
            · have hd : decide ((t : Int) < i) = false := decide_eq_false hi
              rw [hd] at hn
              have HN := Lib.hid hn; clear hn
              go_wp2_with (go_at_call 16; refine (refEdge_any _ _ _ (by unfold maxLen; omega)).mono ?_; rintro e w' ⟨rfl, rfl⟩)
              go_round
              case rel => exact ⟨t + 1, by omega, by go_num, congrArg (Value.int .i64) (by rw [HN.out]; simp)⟩
              case measure => simp [intOf]; omega
          · rw [hf] at hn
            have HN := Lib.hid hn; clear hn
            go_wp2_with (go_at_call 16; refine (refEdge_any _ _ _ (by unfold maxLen; omega)).mono ?_; rintro e w' ⟨rfl, rfl⟩)
            go_round
            case rel => exact ⟨t + 1, by omega, by go_num, congrArg (Value.int .i64) (by rw [HN.out]; simp)⟩
            case measure => simp [intOf]; omega
        · obtain rfl : t = s.size + 1 := by omega
          have hneg2 : ¬ ((s.size + 1 : Nat) : Int) ≤ (s.size : Int) := by omega
          generalize Rn.nxU s i (s.size + 1) = X at HNX
          generalize Rn.bkU s i (s.size + 1) = Y at HBK
          by_cases h0 : i < 0
          · have hx := HNX.out; simp only [if_pos h0] at hx
            have HX := Lib.hid hx; clear hx HNX
            go_wp2_with (first | (go_at_call 17; refine (HX.out _).mono ?_; rintro e w' ⟨rfl, rfl⟩) | (go_at_call 18; refine (HBK.out _).mono ?_; rintro e w' ⟨rfl, rfl⟩))
            go_ret
            exact ⟨rfl, hb⟩
          · have hx := HNX.out; simp only [if_neg h0] at hx
            have HX := Lib.hid hx; clear hx HNX
            go_wp2_with (first | (go_at_call 17; refine (HX.out _).mono ?_; rintro e w' ⟨rfl, rfl⟩) | (go_at_call 18; refine (HBK.out _).mono ?_; rintro e w' ⟨rfl, rfl⟩))
            go_ret
            exact ⟨rfl, hb⟩
end Go.Proofs.Ytmnaopdgdlineaa
