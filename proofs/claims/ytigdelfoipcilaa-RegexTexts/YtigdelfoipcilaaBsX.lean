/- What the document's Put answers, walked. -/
import Derived.Test.YtigdelfoipcilaaBsD
import Derived.Test.YtigdelfoipcilaaBsU
import Derived.Deep.RegionHeld3
import Derived.Deep.DeepCutAuto
import Derived.Deep.QuietTactic
import Derived.BigQuiet
namespace Go.Proofs.Ytigdelfoipcilaa
set_option linter.unusedVariables false
set_option linter.unusedSimpArgs false
open Go.RowKit
theorem Bs.word_add {f : Nat → Bool} {c : Nat} (hf : f c = false) : Bs.word f (c / 64) + 2 ^ (c % 64) = Bs.word (fun d => f d || d == c) (c / 64) := by
  have hk : c % 64 < 64 := by omega
  have hb : (Bs.word f (c / 64)).testBit (c % 64) = false := by
    rw [Bs.word_bit, show 64 * (c / 64) + c % 64 = c by omega, hf]; simp
  rw [Bs.add_bit hb, Bs.word_put f _ _ hk, show 64 * (c / 64) + c % 64 = c by omega]
set_option maxRecDepth 100000 in
set_option maxHeartbeats 1000000 in
theorem putB_any (f : Nat → Bool) (c : Nat) (hc : c < 256) (w : World) : Calls Try.prog 104 #[Bs.val f, .int .u8 c] w fun e w' => e = .returned (Bs.val fun d => f d || d == c) ∧ Below w.heap.size w w' := by
  rcases Bool.eq_false_or_eq_true (f c) with hf | hf
  · have e : (Bs.val fun d => f d || d == c) = Bs.val f := Bs.val_congr fun d _ => by
      by_cases h : d = c
      · rw [h, hf]; simp
      · simp [h]
    rw [e]
    clear e
    have C := fun v => refHas_any f c hc v
    rw [hf] at C
    have HC := Lib.hid C
    clear C hf
    unfold Bs.val
    go_enter Try.func104, Try.ntmps104
    go_wp2_with fail
    have F0 := (Bs.box_new w f 25).up (Bs.below1 _ (.cells #[.int .u64 0, .int .u64 0, .int .u64 0, .int .u64 0] 25))
    have G0 := Bs.box_zero (w.alloc (.cells #[.int .u64 ↑(Bs.word f 0), .int .u64 ↑(Bs.word f 1), .int .u64 ↑(Bs.word f 2), .int .u64 ↑(Bs.word f 3)] 25)) 25
    have eN : (w.alloc (.cells #[.int .u64 ↑(Bs.word f 0), .int .u64 ↑(Bs.word f 1), .int .u64 ↑(Bs.word f 2), .int .u64 ↑(Bs.word f 3)] 25)).heap.size = w.heap.size + 1 := by simp [go_sem]
    rw [eN] at G0
    refine (HC.out _).mono ?_
    rintro e v ⟨rfl, hb⟩
    have B := Bs.below_up (Bs.below2 w _ _) hb
    replace F0 := F0.up hb
    replace G0 := G0.up hb
    clear hb eN
    have f0 := F0.cell 0 (by decide); have f1 := F0.cell 1 (by decide); have f2 := F0.cell 2 (by decide); have f3 := F0.cell 3 (by decide)
    have z0 := G0.cell 0 (by decide); have z1 := G0.cell 1 (by decide); have z2 := G0.cell 2 (by decide); have z3 := G0.cell 3 (by decide)
    have g0 := G0.frz 0 (by decide); have g1 := G0.frz 1 (by decide); have g2 := G0.frz 2 (by decide); have g3 := G0.frz 3 (by decide)
    go_wp2_with fail
    exact bodyPost_ret (v := .agg #[.int .u64 ↑(Bs.word f 0), .int .u64 ↑(Bs.word f 1), .int .u64 ↑(Bs.word f 2), .int .u64 ↑(Bs.word f 3)]) (by simp [results, Try.results104, go_sem, z0, z1, z2, z3]) rfl ⟨rfl, Bs.set4 B (by omega) _ _ _ _⟩
  · have C := fun v => refHas_any f c hc v
    rw [hf] at C
    have HC := Lib.hid C
    have HW := Lib.hid (Bs.word_add hf)
    have hlt : Bs.word f (c / 64) + 2 ^ (c % 64) < 18446744073709551616 := by rw [HW.out]; exact Bs.word_lt _ _
    have HLT := Lib.hid hlt
    clear C hf hlt
    have hi : c / 64 < 4 := by omega
    unfold Bs.val
    go_enter Try.func104, Try.ntmps104
    go_wp2_with fail
    have F0 := (Bs.box_new w f 25).up (Bs.below1 _ (.cells #[.int .u64 0, .int .u64 0, .int .u64 0, .int .u64 0] 25))
    have G0 := Bs.box_zero (w.alloc (.cells #[.int .u64 ↑(Bs.word f 0), .int .u64 ↑(Bs.word f 1), .int .u64 ↑(Bs.word f 2), .int .u64 ↑(Bs.word f 3)] 25)) 25
    have eN : (w.alloc (.cells #[.int .u64 ↑(Bs.word f 0), .int .u64 ↑(Bs.word f 1), .int .u64 ↑(Bs.word f 2), .int .u64 ↑(Bs.word f 3)] 25)).heap.size = w.heap.size + 1 := by simp [go_sem]
    rw [eN] at G0
    refine (HC.out _).mono ?_
    rintro e v ⟨rfl, hb⟩
    have B := Bs.below_up (Bs.below2 w _ _) hb
    replace F0 := F0.up hb
    replace G0 := G0.up hb
    clear hb eN
    go_wp2_with fail
    go_loop [5, 6] (fun x i => ∃ k y : Nat, k ≤ c % 64 ∧ y < 18446744073709551616 ∧ i = .int .i64 k ∧ x = .int .u64 y ∧ Hid (y = 2 ^ k)) (fun _ i => c % 64 - (intOf i).toNat)
    case atStart => exact ⟨0, 1, Nat.zero_le _, by decide, rfl, rfl, Lib.hid rfl⟩
    case round =>
      obtain ⟨k, y, hk, hy, rfl, rfl, HY⟩ := hrel
      by_cases hlk : k < c % 64
      · have hy2 : y < 9223372036854775808 := by
          rw [HY.out]; exact show 2 ^ k < 2 ^ 63 from Nat.pow_lt_pow_right (by decide) (by omega)
        go_wp2_with fail
        go_round
        case rel => exact ⟨k + 1, 2 * y, by omega, by omega, by go_num, by go_num, Lib.hid (by rw [HY.out, Nat.pow_succ, Nat.mul_comm])⟩
        case measure => simp [intOf]; omega
      · have e1 : k = c % 64 := by omega
        have hyp : y = 2 ^ (c % 64) := by rw [HY.out, e1]
        have hsum : Bs.word f (c / 64) + y < 18446744073709551616 := by rw [hyp]; exact HLT.out
        have HYP := Lib.hid hyp
        clear hyp e1
        have b0 := F0.cell (c / 64) hi
        have p0 := F0.frz (c / 64) hi
        go_upto_region 9 with (fail)
        have eV : (Bs.word f (c / 64) : Int) + (y : Int) = (Bs.word (fun d => f d || d == c) (c / 64) : Int) := by rw [← HW.out, HYP.out]; simp
        rw [eV]
        have n1 : w.heap.size ≠ w.heap.size + 1 := by omega
        have F1 := F0.put (g := fun d => f d || d == c) hi fun j _ hj => Bs.put_far f c j hj
        have G1 := G0.far (i := c / 64) n1 (.int .u64 ↑(Bs.word (fun d => f d || d == c) (c / 64)))
        have B1 := B.setCell (p := ⟨w.heap.size, c / 64, none⟩) (Nat.le_refl _) (.int .u64 ↑(Bs.word (fun d => f d || d == c) (c / 64)))
        clear F0 G0 B b0 p0 eV hsum
        generalize v.setCell ⟨w.heap.size, c / 64, none⟩ (.int .u64 ↑(Bs.word (fun d => f d || d == c) (c / 64))) = V at *
        have f0 := F1.cell 0 (by decide); have f1 := F1.cell 1 (by decide); have f2 := F1.cell 2 (by decide); have f3 := F1.cell 3 (by decide)
        have z0 := G1.cell 0 (by decide); have z1 := G1.cell 1 (by decide); have z2 := G1.cell 2 (by decide); have z3 := G1.cell 3 (by decide)
        have g0 := G1.frz 0 (by decide); have g1 := G1.frz 1 (by decide); have g2 := G1.frz 2 (by decide); have g3 := G1.frz 3 (by decide)
        go_wp2_with fail
        exact bodyPost_ret (v := .agg #[.int .u64 ↑(Bs.word (fun d => f d || d == c) 0), .int .u64 ↑(Bs.word (fun d => f d || d == c) 1), .int .u64 ↑(Bs.word (fun d => f d || d == c) 2), .int .u64 ↑(Bs.word (fun d => f d || d == c) 3)]) (by simp [results, Try.results104, go_sem, z0, z1, z2, z3]) rfl ⟨rfl, Bs.set4 B1 (by omega) _ _ _ _⟩
end Go.Proofs.Ytigdelfoipcilaa
