/- What 'Whole' answers, walked. -/
import Derived.Test.YtndenipjiclkaaaRnC
import Derived.Lib.Strings
import Derived.Lib.IndexBytes
import Derived.Deep.LoopGhost
namespace Go.Proofs.Ytndenipjiclkaaa
set_option linter.unusedVariables false
set_option linter.unusedSimpArgs false
open Go.RowKit
theorem tail_data (s : ByteArray) (k : Nat) : (s.extract k s.size).data.toList = s.data.toList.drop k := by
  rw [Lib.extract_data]; exact List.take_of_length_le (by simp)
set_option maxRecDepth 100000 in
set_option maxHeartbeats 400000 in
theorem sign_walk (b at' : Nat) (k : Int) (s : ByteArray) (w : World) (hs : s.size ≤ maxLen) (ha : at' ≤ s.size) (hk : (Rn.firstL (s.data.toList.drop at')).2 = k)
    (hc0 : w.cell? ⟨b, 0, none⟩ = some (.string s)) (hc1 : w.cell? ⟨b, 1, none⟩ = some (.int .i64 at')) (hf : w.frozen? ⟨b, 1, none⟩ = false) :
    Calls Try.prog 65 #[.pointer (some ⟨b, 0, none⟩)] w fun e w' => e = .returned (.bool (decide (0 < k))) ∧ ∃ n, w' = (w.drewN n).setCell ⟨b, 1, none⟩ (.int .i64 (at' + k)) := by
  unfold maxLen at hs
  have hbd := Rn.firstL_bd (s.data.toList.drop at')
  rw [hk, List.length_drop, Rn.len_data] at hbd
  have hT : (s.data.toList.drop at').take (s.size - at') = s.data.toList.drop at' := List.take_of_length_le (by simp)
  go_enter Try.func65, Try.ntmps65
  go_wp2
  have hw1 : IntKind.i64.wrap ((at' : Int) + k) = at' + k := IntWalk.i64_in _ (by omega)
  go_quiet ((go_at_call 80; refine Calls.quiet_of (first_any _ _ (by unfold maxLen; simp; omega))))
  rw [tail_data, hk]
  go_wp2
  go_ret
  exact ⟨rfl, _, rfl⟩
theorem cell_set_same (w : World) (a : Addr) (u v : Value) (h : w.cell? a = some u) : (w.setCell a v).cell? a = some v := by
  simp [go_sem, h]
/-- what is known of the reader's block at each round's head -/
structure ReadsAt (w0 : World) (s : ByteArray) (at' : Nat) (wr : World) : Prop where
  c0 : wr.cell? ⟨w0.heap.size, 0, none⟩ = some (.string s)
  c1 : wr.cell? ⟨w0.heap.size, 1, none⟩ = some (.int .i64 at')
  fz : wr.frozen? ⟨w0.heap.size, 1, none⟩ = false
  be : Below w0.heap.size w0 wr
  wh : Rn.wholeL s.data.toList = Rn.wholeL (s.data.toList.drop at')
theorem ReadsAt.on {w0 : World} {s : ByteArray} {at' k : Nat} {wr : World} (h : ReadsAt w0 s at' wr) (hk : (Rn.firstL (s.data.toList.drop at')).2 = k) (h0 : 0 < k) (n : Nat) :
    ReadsAt w0 s (at' + k) ((wr.drewN n).setCell ⟨w0.heap.size, 1, none⟩ (.int .i64 (at' + k : Nat))) where
  c0 := by have := h.c0; simp [go_sem, this]
  c1 := by have := h.c1; simp [go_sem, this]
  fz := by have := h.fz; simp [go_sem, this]
  be := (below_drewN h.be n).setCell (Nat.le_refl _) _
  wh := by
    rw [h.wh, Rn.wholeL_eq, hk, if_neg (by omega), List.drop_drop]; simp
set_option maxRecDepth 100000 in
set_option maxHeartbeats 400000 in
theorem whole_any (s : ByteArray) (w : World) (hs : s.size ≤ maxLen) : Calls Try.prog 46 #[.string s] w fun e w' => e = .returned (.bool (Rn.wholeL s.data.toList)) ∧ Below w.heap.size w w' := by
  unfold maxLen at hs
  go_enter Try.func46, Try.ntmps46
  go_wp2
  go_loopg [] (s.size + 1) (fun g wr => ∃ at' : Nat, at' ≤ s.size ∧ g + at' = s.size + 1 ∧ ReadsAt w s at' wr)
  case atStart => 
    refine ⟨0, by omega, by omega, ⟨by simp, by simp, by simp, ?_, rfl⟩⟩
    exact (Below.refl _ _).alloc (Nat.le_refl _) _
  case round =>
    obtain ⟨at', h1, h2, hr⟩ := hrel
    have hk0 := Rn.firstL_bd (s.data.toList.drop at')
    rw [List.length_drop, Rn.len_data] at hk0
    obtain ⟨k, hk⟩ : ∃ k : Nat, (Rn.firstL (s.data.toList.drop at')).2 = k := ⟨_, (Int.toNat_of_nonneg hk0.1).symm⟩
    rw [hk] at hk0
    have HK := Lib.hid hk; clear hk
    have hc := sign_walk w.heap.size at' k s wr (by unfold maxLen; omega) h1 HK.out hr.c0 hr.c1 hr.fz
    have HC := Lib.hid hc; clear hc
    by_cases hk1 : 0 < k
    · have hk2 : decide (0 < (k : Int)) = true := by simp; omega
      go_wp2_with (go_at_call 65; refine HC.out.mono ?_; rintro e w' ⟨rfl, n, rfl⟩)
      go_roundg (gk - k)
      case measure => omega
      case rel => exact ⟨at' + k, by omega, by omega, hr.on HK.out hk1 n⟩
    · have hk2 : decide (0 < (k : Int)) = false := by simp; omega
      have hc1 := hr.c1
      go_wp2_with (go_at_call 65; refine HC.out.mono ?_; rintro e w' ⟨rfl, n, rfl⟩)
      go_ret
      refine ⟨ret_bool ?_, (below_drewN hr.be n).setCell (Nat.le_refl _) _⟩
      rw [hr.wh, Rn.wholeL_eq, HK.out, if_pos (by omega), Bool.eq_iff_iff, List.isEmpty_iff_length_eq_zero, List.length_drop, Rn.len_data, beq_iff_eq]
      omega
end Go.Proofs.Ytndenipjiclkaaa
