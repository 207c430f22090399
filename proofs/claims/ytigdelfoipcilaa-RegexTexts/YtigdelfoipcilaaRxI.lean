/- What the document's set answers, walked. -/
import Derived.Test.YtigdelfoipcilaaRxH
import Derived.Test.YtigdelfoipcilaaBsX
namespace Go.Proofs.Ytigdelfoipcilaa
set_option linter.unusedVariables false
set_option linter.unusedSimpArgs false
open Go.RowKit
/-- the bytes from lo up to c -/
def Rx.upto (lo c : Nat) (d : Nat) : Bool := decide (lo ≤ d) && decide (d < c)
theorem Rx.upto_zero (lo : Nat) : Rx.upto lo lo = fun _ => false := by
  funext d; simp [Rx.upto]
theorem Rx.upto_succ {lo c : Nat} (h : lo ≤ c) : (fun d => Rx.upto lo c d || d == c) = Rx.upto lo (c + 1) := by
  funext d
  rw [Bool.eq_iff_iff]
  simp [Rx.upto]
  omega
theorem Rx.upto_rng (lo hi : Nat) : Rx.upto lo (hi + 1) = Rx.rng lo hi := by
  funext d
  rw [Bool.eq_iff_iff]
  simp [Rx.upto, Rx.rng]
  omega
set_option maxRecDepth 100000 in
set_option maxHeartbeats 1000000 in
theorem refSet_any (lo hi : Nat) (hl : lo ≤ hi) (hh : hi < 256) (w : World) : Calls Try.prog 95 #[.int .i64 lo, .int .i64 hi] w fun e w' => e = .returned (Bs.val (Rx.rng lo hi)) ∧ Below w.heap.size w w' := by
  rw [← Rx.upto_rng]
  go_enter Try.func95, Try.ntmps95
  go_wp2_with fail
  have B0 := (Bs.box_zero w 25).up (Bs.below1 _ (.cells #[.int .u64 0, .int .u64 0, .int .u64 0, .int .u64 0] 25))
  have B1 := Bs.box_zero (w.alloc (.cells #[.int .u64 0, .int .u64 0, .int .u64 0, .int .u64 0] 25)) 25
  have eN : (w.alloc (.cells #[.int .u64 0, .int .u64 0, .int .u64 0, .int .u64 0] 25)).heap.size = w.heap.size + 1 := by simp [go_sem]
  rw [eN] at B1
  have B : Below w.heap.size w ((w.alloc (.cells #[.int .u64 0, .int .u64 0, .int .u64 0, .int .u64 0] 25)).alloc (.cells #[.int .u64 0, .int .u64 0, .int .u64 0, .int .u64 0] 25)) := Bs.below2 _ _ _
  clear eN
  generalize (w.alloc (.cells #[.int .u64 0, .int .u64 0, .int .u64 0, .int .u64 0] 25)).alloc (.cells #[.int .u64 0, .int .u64 0, .int .u64 0, .int .u64 0] 25) = W at *
  go_loopw [6] (fun i wr => ∃ c : Nat, lo ≤ c ∧ c ≤ hi + 1 ∧ i = .int .i64 c ∧ Bs.Box wr (w.heap.size + 1) (Rx.upto lo c) ∧ Bs.Box wr w.heap.size (fun _ => false) ∧ Below w.heap.size w wr) (fun i _ => hi + 1 - (intOf i).toNat)
  case atStart => exact ⟨lo, by omega, by omega, rfl, by rw [Rx.upto_zero]; exact B1, B0, B⟩
  case round =>
    clear B0 B1 B
    obtain ⟨c, hc, hc', rfl, B1, B0, B⟩ := hrel
    have n1 : w.heap.size ≠ w.heap.size + 1 := by omega
    have m1 : w.heap.size ≤ w.heap.size + 1 := by omega
    have b0 := B1.cell 0 (by decide); have b1 := B1.cell 1 (by decide); have b2 := B1.cell 2 (by decide); have b3 := B1.cell 3 (by decide)
    by_cases hlt : c ≤ hi
    · have e1 : decide ((c : Int) ≤ hi) = true := by simp; omega
      have w8 : IntKind.u8.wrap (c : Int) = c := by rw [IntKind.wrap_u8']; omega
      have P := putB_any (Rx.upto lo c) c (by omega) wr
      rw [Rx.upto_succ hc] at P
      unfold Bs.val at P
      have HP := Lib.hid P; clear P
      go_wp2_with fail
      refine HP.out.mono ?_
      rintro e w1 ⟨rfl, hb⟩
      replace B1 := B1.up hb
      replace B0 := B0.up hb
      replace B := Bs.below_up B hb
      clear hb HP
      replace b0 := B1.cell 0 (by decide); replace b1 := B1.cell 1 (by decide); replace b2 := B1.cell 2 (by decide); replace b3 := B1.cell 3 (by decide)
      have g0 := B1.frz 0 (by decide); have g1 := B1.frz 1 (by decide); have g2 := B1.frz 2 (by decide); have g3 := B1.frz 3 (by decide)
      go_wp2_with fail
      go_roundw
      case rel => exact ⟨c + 1, by omega, by omega, by go_num, B1.write _, B0.far4 (Ne.symm n1) _ _ _ _, Bs.set4 B m1 _ _ _ _⟩
      case measure => simp [intOf]; omega
    · have e1 : decide ((c : Int) ≤ hi) = false := by simp; omega
      have ec : c = hi + 1 := by omega
      subst ec
      have z0 := B0.cell 0 (by decide); have z1 := B0.cell 1 (by decide); have z2 := B0.cell 2 (by decide); have z3 := B0.cell 3 (by decide)
      have g0 := B0.frz 0 (by decide); have g1 := B0.frz 1 (by decide); have g2 := B0.frz 2 (by decide); have g3 := B0.frz 3 (by decide)
      go_wp2_with fail
      exact bodyPost_ret (v := Bs.val (Rx.upto lo (hi + 1))) (by simp [results, Try.results95, go_sem, z0, z1, z2, z3, Bs.val]) rfl ⟨rfl, Bs.set4 B (Nat.le_refl _) _ _ _ _⟩
end Go.Proofs.Ytigdelfoipcilaa
