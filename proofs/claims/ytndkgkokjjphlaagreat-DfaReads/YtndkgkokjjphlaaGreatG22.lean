/- What 'Bytes' answers, walked. -/
import Derived.Test.YtndkgkokjjphlaaGreatG7
import Derived.Laws.BytesArg
import Derived.LoopN
namespace Go.Proofs.YtndkgkokjjphlaaGreat
set_option linter.unusedVariables false
set_option linter.unusedSimpArgs false
open Go.RowKit
theorem conv_new (W : World) (b : Nat) (xs : List Int) (k : Nat) (hk : xs.length = k) (hcell : ∀ i, i < k → W.cell? ⟨b, 0 + i, none⟩ = some (.int .u8 (xs.getD i 0))) :
    (convert 90 9 (.slice (some ⟨b, 0, none⟩) k k)).run Tryz.prog W = .ok (.string (strOfNums xs)) W :=
  run_convert_bytes_arg (P := Tryz.prog) W 90 5 Tryz.underlying90 Tryz.underlying5 b 0 k k xs hk hcell 9 Tryz.underlying9
theorem below_new (w : World) (o : Obj) : Below w.heap.size w (w.alloc o) := (Below.refl _ _).alloc (Nat.le_refl _) _
theorem cells1 (w : World) (a : Int) (t : TypeId) : ∀ i, i < 1 → (w.alloc (.cells #[.int .u8 a] t)).cell? ⟨w.heap.size, 0 + i, none⟩ = some (.int .u8 ([a].getD i 0)) := by
  intro i hi; obtain rfl : i = 0 := by omega
  simp [go_sem]
theorem cells2 (w : World) (a b : Int) (t : TypeId) : ∀ i, i < 2 → (w.alloc (.cells #[.int .u8 a, .int .u8 b] t)).cell? ⟨w.heap.size, 0 + i, none⟩ = some (.int .u8 ([a, b].getD i 0)) := by
  intro i hi
  match i, hi with
  | 0, _ => simp [go_sem]
  | 1, _ => simp [go_sem]
theorem cells3 (w : World) (a b c : Int) (t : TypeId) : ∀ i, i < 3 → (w.alloc (.cells #[.int .u8 a, .int .u8 b, .int .u8 c] t)).cell? ⟨w.heap.size, 0 + i, none⟩ = some (.int .u8 ([a, b, c].getD i 0)) := by
  intro i hi
  match i, hi with
  | 0, _ => simp [go_sem]
  | 1, _ => simp [go_sem]
  | 2, _ => simp [go_sem]
theorem cells4 (w : World) (a b c d : Int) (t : TypeId) : ∀ i, i < 4 → (w.alloc (.cells #[.int .u8 a, .int .u8 b, .int .u8 c, .int .u8 d] t)).cell? ⟨w.heap.size, 0 + i, none⟩ = some (.int .u8 ([a, b, c, d].getD i 0)) := by
  intro i hi
  match i, hi with
  | 0, _ => simp [go_sem]
  | 1, _ => simp [go_sem]
  | 2, _ => simp [go_sem]
  | 3, _ => simp [go_sem]
set_option maxRecDepth 100000 in
set_option maxHeartbeats 400000 in
theorem bytes_1 (n : Int) (w : World) (h : 0 ≤ n ∧ n < 128) : Calls Tryz.prog 136 #[.int .i64 n] w fun e w' => e = .returned (.string (strOfNums (Rn.bytesI n))) ∧ Below w.heap.size w w' := by
  obtain ⟨_, hb, hs⟩ := Rn.bytesI_1 n h
  rw [hb]
  have hcv := conv_new _ _ [n] 1 rfl (cells1 w (n) 5)
  clear hb
  have hmk : ∀ w, (Instr.makeSlice 90 (.int .i64 1) (.int .i64 1)).run Tryz.prog w = .ok (.slice (some ⟨w.heap.size, 0, none⟩) 1 1) (w.alloc (.cells #[.int .u8 0] 5)) := fun _ => by kernel_rfl
  have hl : Rn.leadI 1 = 0 := by decide
  go_enter Tryz.func136, Tryz.ntmps136
  go_wp2_with (go_at_call 113; refine (size_any _ _).mono ?_; rintro e w' ⟨rfl, rfl⟩)
  refine wp_loop_rounds 1 ?_

  rw [rounds_succ]
  go_wp2_with (go_at_call 111; refine (lead_any _ _).mono ?_; rintro e w' ⟨rfl, rfl⟩)
  go_ret
  exact ⟨rfl, below_new _ _⟩
set_option maxRecDepth 100000 in
set_option maxHeartbeats 400000 in
theorem bytes_2 (n : Int) (w : World) (h : 128 ≤ n ∧ n < 2048) : Calls Tryz.prog 136 #[.int .i64 n] w fun e w' => e = .returned (.string (strOfNums (Rn.bytesI n))) ∧ Below w.heap.size w w' := by
  obtain ⟨_, hb, hs⟩ := Rn.bytesI_2 n h
  rw [hb]
  have hcv := conv_new _ _ [192 + n / 64, 128 + n % 64] 2 rfl (cells2 w (192 + n / 64) (128 + n % 64) 5)
  clear hb
  have hmk : ∀ w, (Instr.makeSlice 90 (.int .i64 2) (.int .i64 2)).run Tryz.prog w = .ok (.slice (some ⟨w.heap.size, 0, none⟩) 2 2) (w.alloc (.cells #[.int .u8 0, .int .u8 0] 5)) := fun _ => by kernel_rfl
  have hl : Rn.leadI 2 = 192 := by decide
  go_enter Tryz.func136, Tryz.ntmps136
  go_wp2_with (go_at_call 113; refine (size_any _ _).mono ?_; rintro e w' ⟨rfl, rfl⟩)
  refine wp_loop_rounds 2 ?_
  rw [rounds_succ]
  go_wp2
  rw [rounds_succ]
  go_wp2_with (go_at_call 111; refine (lead_any _ _).mono ?_; rintro e w' ⟨rfl, rfl⟩)
  go_ret
  exact ⟨rfl, below_new _ _⟩
set_option maxRecDepth 100000 in
set_option maxHeartbeats 400000 in
theorem bytes_3 (n : Int) (w : World) (h : 2048 ≤ n ∧ n < 65536) (h2 : ¬ (55296 ≤ n ∧ n ≤ 57343)) : Calls Tryz.prog 136 #[.int .i64 n] w fun e w' => e = .returned (.string (strOfNums (Rn.bytesI n))) ∧ Below w.heap.size w w' := by
  obtain ⟨_, hb, hs⟩ := Rn.bytesI_3 n h h2
  rw [hb]
  have hcv := conv_new _ _ [224 + n / 4096, 128 + n / 64 % 64, 128 + n % 64] 3 rfl (cells3 w (224 + n / 4096) (128 + n / 64 % 64) (128 + n % 64) 5)
  clear hb
  have hmk : ∀ w, (Instr.makeSlice 90 (.int .i64 3) (.int .i64 3)).run Tryz.prog w = .ok (.slice (some ⟨w.heap.size, 0, none⟩) 3 3) (w.alloc (.cells #[.int .u8 0, .int .u8 0, .int .u8 0] 5)) := fun _ => by kernel_rfl
  have hl : Rn.leadI 3 = 224 := by decide
  have hd : n / 64 / 64 = n / 4096 := by omega
  go_enter Tryz.func136, Tryz.ntmps136
  go_wp2_with (go_at_call 113; refine (size_any _ _).mono ?_; rintro e w' ⟨rfl, rfl⟩)
  refine wp_loop_rounds 3 ?_
  rw [rounds_succ]
  go_wp2
  rw [rounds_succ]
  go_wp2
  rw [rounds_succ]
  go_wp2_with (go_at_call 111; refine (lead_any _ _).mono ?_; rintro e w' ⟨rfl, rfl⟩)
  go_ret
  exact ⟨rfl, below_new _ _⟩
set_option maxRecDepth 100000 in
set_option maxHeartbeats 400000 in
theorem bytes_4 (n : Int) (w : World) (h : 65536 ≤ n ∧ n < 1114112) : Calls Tryz.prog 136 #[.int .i64 n] w fun e w' => e = .returned (.string (strOfNums (Rn.bytesI n))) ∧ Below w.heap.size w w' := by
  obtain ⟨_, hb, hs⟩ := Rn.bytesI_4 n h
  rw [hb]
  have hcv := conv_new _ _ [240 + n / 262144, 128 + n / 4096 % 64, 128 + n / 64 % 64, 128 + n % 64] 4 rfl (cells4 w (240 + n / 262144) (128 + n / 4096 % 64) (128 + n / 64 % 64) (128 + n % 64) 5)
  clear hb
  have hmk : ∀ w, (Instr.makeSlice 90 (.int .i64 4) (.int .i64 4)).run Tryz.prog w = .ok (.slice (some ⟨w.heap.size, 0, none⟩) 4 4) (w.alloc (.cells #[.int .u8 0, .int .u8 0, .int .u8 0, .int .u8 0] 5)) := fun _ => by kernel_rfl
  have hl : Rn.leadI 4 = 240 := by decide
  have hd : n / 64 / 64 = n / 4096 := by omega
  have hd2 : n / 4096 / 64 = n / 262144 := by omega
  go_enter Tryz.func136, Tryz.ntmps136
  go_wp2_with (go_at_call 113; refine (size_any _ _).mono ?_; rintro e w' ⟨rfl, rfl⟩)
  refine wp_loop_rounds 4 ?_
  rw [rounds_succ]
  go_wp2
  rw [rounds_succ]
  go_wp2
  rw [rounds_succ]
  go_wp2
  rw [rounds_succ]
  go_wp2_with (go_at_call 111; refine (lead_any _ _).mono ?_; rintro e w' ⟨rfl, rfl⟩)
  go_ret
  exact ⟨rfl, below_new _ _⟩
set_option maxRecDepth 100000 in
set_option maxHeartbeats 400000 in
theorem bytes_any (n : Int) (w : World) : Calls Tryz.prog 136 #[.int .i64 n] w fun e w' => e = .returned (.string (strOfNums (Rn.bytesI n))) ∧ Below w.heap.size w w' := by
  by_cases hA : 0 ≤ n ∧ n < 1114112 ∧ ¬ (55296 ≤ n ∧ n ≤ 57343)
  · by_cases h1 : n < 128
    · exact bytes_1 n w (by omega)
    by_cases h2 : n < 2048
    · exact bytes_2 n w (by omega)
    by_cases h3 : n < 65536
    · exact bytes_3 n w (by omega) (by omega)
    · exact bytes_4 n w (by omega)
  · obtain ⟨_, hb, hs⟩ := Rn.bytesI_0 n hA
    rw [hb]
    clear hb
    go_enter Tryz.func136, Tryz.ntmps136
    go_wp2_with (go_at_call 113; refine (size_any _ _).mono ?_; rintro e w' ⟨rfl, rfl⟩)
    go_ret
    exact ⟨rfl, Below.refl _ _⟩
end Go.Proofs.YtndkgkokjjphlaaGreat
