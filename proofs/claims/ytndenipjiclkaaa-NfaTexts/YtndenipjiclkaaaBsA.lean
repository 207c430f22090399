/- What the small functions of sets answer, walked. -/
import Derived.Test.YtndenipjiclkaaaBsM
import Derived.WalkKit
import Derived.WalkSpells
import Derived.WalkLawsBesides
import Derived.LoopN
import Derived.Below
namespace Go.Proofs.Ytndenipjiclkaaa
set_option linter.unusedVariables false
set_option linter.unusedSimpArgs false
open Go.RowKit
theorem Bs.ret_bool {a b : Bool} (h : a = b) : Ending.returned (.bool a) = .returned (.bool b) := by rw [h]
theorem Bs.ret_int {k : IntKind} {a b : Int} (h : a = b) : Ending.returned (.int k a) = .returned (.int k b) := by rw [h]
theorem Bs.at_word (f : Nat → Bool) (c : Nat) (hc : c < 256) : [Value.int .u64 ↑(Bs.word f 0), .int .u64 ↑(Bs.word f 1), .int .u64 ↑(Bs.word f 2), .int .u64 ↑(Bs.word f 3)][c / 64]? = some (.int .u64 ↑(Bs.word f (c / 64))) := by
  have hi : c / 64 = 0 ∨ c / 64 = 1 ∨ c / 64 = 2 ∨ c / 64 = 3 := by omega
  rcases hi with hi | hi | hi | hi <;> rw [hi] <;> rfl
theorem Bs.idx0 (a b c d : Value) (w : World) : (Instr.index 44 (.agg #[a, b, c, d]) (.int .i64 0)).run Try.prog w = .ok a w := by kernel_rfl
theorem Bs.idx1 (a b c d : Value) (w : World) : (Instr.index 44 (.agg #[a, b, c, d]) (.int .i64 1)).run Try.prog w = .ok b w := by kernel_rfl
theorem Bs.idx2 (a b c d : Value) (w : World) : (Instr.index 44 (.agg #[a, b, c, d]) (.int .i64 2)).run Try.prog w = .ok c w := by kernel_rfl
theorem Bs.idx3 (a b c d : Value) (w : World) : (Instr.index 44 (.agg #[a, b, c, d]) (.int .i64 3)).run Try.prog w = .ok d w := by kernel_rfl
theorem Bs.and_i (f g : Nat → Bool) (i : Nat) : bits .and .u64 (Bs.word f i) (Bs.word g i) = (Bs.word (fun c => f c && g c) i : Int) := by
  rw [u64_and_nat _ _ (Bs.word_lt f i) (Bs.word_lt g i), Bs.word_and]
theorem Bs.or_i (f g : Nat → Bool) (i : Nat) : bits .or .u64 (Bs.word f i) (Bs.word g i) = (Bs.word (fun c => f c || g c) i : Int) := by
  rw [u64_or_nat _ _ (Bs.word_lt f i) (Bs.word_lt g i), Bs.word_or]
theorem Bs.less_i (f g : Nat → Bool) (i : Nat) : bits .andNot .u64 (Bs.word f i) (Bs.word g i) = (Bs.word (fun c => f c && !g c) i : Int) := by
  rw [u64_andNot_nat _ _ (Bs.word_lt f i) (Bs.word_lt g i), Bs.word_less]
theorem Bs.not_i (f : Nat → Bool) (i : Nat) : bits .xor .u64 IntKind.u64.max (Bs.word f i) = (Bs.word (fun c => !f c) i : Int) := by
  have e : IntKind.u64.max = ((18446744073709551615 : Nat) : Int) := by decide
  rw [e, u64_xor_nat _ _ (by decide) (Bs.word_lt f i)]
  congr 1
  refine Bs.is_word (Nat.xor_lt_two_pow (n := 64) (by decide) (Bs.word_lt f i)) fun k hk => ?_
  rw [Nat.testBit_xor, Bs.word_bit, show 18446744073709551615 = 2 ^ 64 - 1 from rfl, Nat.testBit_two_pow_sub_one]
  simp [hk]
theorem Bs.bit_is (f : Nat → Bool) (c : Nat) : (bits BinOp.and IntKind.u64 ((Bs.word f (c / 64) : Int) / 2 ^ (c % 64)) 1 == 1) = f c := by
  have h := Bs.has_word f c
  have hl := Bs.word_lt f (c / 64)
  have e : ((Bs.word f (c / 64) : Int) / 2 ^ (c % 64)) = ((Bs.word f (c / 64) / 2 ^ (c % 64) : Nat) : Int) := by simp
  have hq : Bs.word f (c / 64) / 2 ^ (c % 64) < 18446744073709551616 := Nat.lt_of_le_of_lt (Nat.div_le_self _ _) hl
  rw [e, show (1 : Int) = ((1 : Nat) : Int) from rfl, u64_and_nat _ 1 hq (by decide), nat_mask1, h]
  cases f c <;> rfl
set_option maxRecDepth 100000 in
set_option maxHeartbeats 400000 in
theorem hasB_any (f : Nat → Bool) (c : Nat) (hc : c < 256) (w : World) : Calls Try.prog 44 #[Bs.val f, .int .u8 c] w fun e w' => e = .returned (.bool (f c)) ∧ Below w.heap.size w w' := by
  have hix := Bs.at_word f c hc
  have hb := Lib.hid (Bs.bit_is f c)
  unfold Bs.val
  go_enter Try.func44, Try.ntmps44
  go_wp2
  go_ret
  exact ⟨Bs.ret_bool hb.out, (Below.refl _ _).alloc (Nat.le_refl _) _⟩
theorem Bs.below3 (w : World) (a b c : Obj) : Below w.heap.size w (((w.alloc a).alloc b).alloc c) := (((Below.refl _ _).alloc (Nat.le_refl _) _).alloc (by simp) _).alloc (by simp; omega) _
theorem Bs.below2 (w : World) (a b : Obj) : Below w.heap.size w ((w.alloc a).alloc b) := ((Below.refl _ _).alloc (Nat.le_refl _) _).alloc (by simp) _
set_option maxRecDepth 100000 in
set_option maxHeartbeats 400000 in
theorem andB_any (f g : Nat → Bool) (w : World) : Calls Try.prog 103 #[Bs.val f, Bs.val g] w fun e w' => e = .returned (Bs.val fun c => f c && g c) ∧ Below w.heap.size w w' := by
  have i0 := Bs.idx0 (.int .u64 ↑(Bs.word g 0)) (.int .u64 ↑(Bs.word g 1)) (.int .u64 ↑(Bs.word g 2)) (.int .u64 ↑(Bs.word g 3))
  have i1 := Bs.idx1 (.int .u64 ↑(Bs.word g 0)) (.int .u64 ↑(Bs.word g 1)) (.int .u64 ↑(Bs.word g 2)) (.int .u64 ↑(Bs.word g 3))
  have i2 := Bs.idx2 (.int .u64 ↑(Bs.word g 0)) (.int .u64 ↑(Bs.word g 1)) (.int .u64 ↑(Bs.word g 2)) (.int .u64 ↑(Bs.word g 3))
  have i3 := Bs.idx3 (.int .u64 ↑(Bs.word g 0)) (.int .u64 ↑(Bs.word g 1)) (.int .u64 ↑(Bs.word g 2)) (.int .u64 ↑(Bs.word g 3))
  have a0 := Bs.and_i f g 0; have a1 := Bs.and_i f g 1; have a2 := Bs.and_i f g 2; have a3 := Bs.and_i f g 3
  unfold Bs.val
  go_enter Try.func103, Try.ntmps103
  go_wp2
  refine wp_loop_rounds 5 ?_
  rw [rounds_succ]
  go_wp2
  rw [rounds_succ]
  go_wp2
  rw [rounds_succ]
  go_wp2
  rw [rounds_succ]
  go_wp2
  rw [rounds_succ]
  go_wp2
  exact bodyPost_ret (v := .agg #[.int .u64 ↑(Bs.word (fun c => f c && g c) 0), .int .u64 ↑(Bs.word (fun c => f c && g c) 1), .int .u64 ↑(Bs.word (fun c => f c && g c) 2), .int .u64 ↑(Bs.word (fun c => f c && g c) 3)]) (by simp [results, Try.results103, go_sem]) rfl ⟨rfl, Bs.below3 _ _ _ _⟩
set_option maxRecDepth 100000 in
set_option maxHeartbeats 400000 in
theorem lessB_any (f g : Nat → Bool) (w : World) : Calls Try.prog 104 #[Bs.val f, Bs.val g] w fun e w' => e = .returned (Bs.val fun c => f c && !g c) ∧ Below w.heap.size w w' := by
  have i0 := Bs.idx0 (.int .u64 ↑(Bs.word g 0)) (.int .u64 ↑(Bs.word g 1)) (.int .u64 ↑(Bs.word g 2)) (.int .u64 ↑(Bs.word g 3))
  have i1 := Bs.idx1 (.int .u64 ↑(Bs.word g 0)) (.int .u64 ↑(Bs.word g 1)) (.int .u64 ↑(Bs.word g 2)) (.int .u64 ↑(Bs.word g 3))
  have i2 := Bs.idx2 (.int .u64 ↑(Bs.word g 0)) (.int .u64 ↑(Bs.word g 1)) (.int .u64 ↑(Bs.word g 2)) (.int .u64 ↑(Bs.word g 3))
  have i3 := Bs.idx3 (.int .u64 ↑(Bs.word g 0)) (.int .u64 ↑(Bs.word g 1)) (.int .u64 ↑(Bs.word g 2)) (.int .u64 ↑(Bs.word g 3))
  have a0 := Bs.less_i f g 0; have a1 := Bs.less_i f g 1; have a2 := Bs.less_i f g 2; have a3 := Bs.less_i f g 3
  unfold Bs.val
  go_enter Try.func104, Try.ntmps104
  go_wp2
  refine wp_loop_rounds 5 ?_
  rw [rounds_succ]
  go_wp2
  rw [rounds_succ]
  go_wp2
  rw [rounds_succ]
  go_wp2
  rw [rounds_succ]
  go_wp2
  rw [rounds_succ]
  go_wp2
  exact bodyPost_ret (v := .agg #[.int .u64 ↑(Bs.word (fun c => f c && !g c) 0), .int .u64 ↑(Bs.word (fun c => f c && !g c) 1), .int .u64 ↑(Bs.word (fun c => f c && !g c) 2), .int .u64 ↑(Bs.word (fun c => f c && !g c) 3)]) (by simp [results, Try.results104, go_sem]) rfl ⟨rfl, Bs.below3 _ _ _ _⟩
set_option maxRecDepth 100000 in
set_option maxHeartbeats 400000 in
theorem notB_any (f : Nat → Bool) (w : World) : Calls Try.prog 111 #[Bs.val f] w fun e w' => e = .returned (Bs.val fun c => !f c) ∧ Below w.heap.size w w' := by
  have i0 := Bs.idx0 (.int .u64 ↑(Bs.word f 0)) (.int .u64 ↑(Bs.word f 1)) (.int .u64 ↑(Bs.word f 2)) (.int .u64 ↑(Bs.word f 3))
  have i1 := Bs.idx1 (.int .u64 ↑(Bs.word f 0)) (.int .u64 ↑(Bs.word f 1)) (.int .u64 ↑(Bs.word f 2)) (.int .u64 ↑(Bs.word f 3))
  have i2 := Bs.idx2 (.int .u64 ↑(Bs.word f 0)) (.int .u64 ↑(Bs.word f 1)) (.int .u64 ↑(Bs.word f 2)) (.int .u64 ↑(Bs.word f 3))
  have i3 := Bs.idx3 (.int .u64 ↑(Bs.word f 0)) (.int .u64 ↑(Bs.word f 1)) (.int .u64 ↑(Bs.word f 2)) (.int .u64 ↑(Bs.word f 3))
  have a0 := Bs.not_i f 0; have a1 := Bs.not_i f 1; have a2 := Bs.not_i f 2; have a3 := Bs.not_i f 3
  have hs : IntKind.u64.signed = false := rfl
  unfold Bs.val
  go_enter Try.func111, Try.ntmps111
  go_wp2
  refine wp_loop_rounds 5 ?_
  rw [rounds_succ]
  go_wp2
  rw [rounds_succ]
  go_wp2
  rw [rounds_succ]
  go_wp2
  rw [rounds_succ]
  go_wp2
  rw [rounds_succ]
  go_wp2
  exact bodyPost_ret (v := .agg #[.int .u64 ↑(Bs.word (fun c => !f c) 0), .int .u64 ↑(Bs.word (fun c => !f c) 1), .int .u64 ↑(Bs.word (fun c => !f c) 2), .int .u64 ↑(Bs.word (fun c => !f c) 3)]) (by simp [results, Try.results111, go_sem]) rfl ⟨rfl, Bs.below2 _ _ _⟩
/-- a new block of four words behind calls that left it alone -/
theorem Bs.new4 {w w1 : World} {a b c d : Value} {t : TypeId} (hb : Below (w.alloc (.cells #[a, b, c, d] t)).heap.size (w.alloc (.cells #[a, b, c, d] t)) w1) :
    w1.cell? ⟨w.heap.size, 0, none⟩ = some a ∧ w1.cell? ⟨w.heap.size, 1, none⟩ = some b ∧ w1.cell? ⟨w.heap.size, 2, none⟩ = some c ∧ w1.cell? ⟨w.heap.size, 3, none⟩ = some d ∧
    w1.frozen? ⟨w.heap.size, 0, none⟩ = false ∧ w1.frozen? ⟨w.heap.size, 1, none⟩ = false ∧ w1.frozen? ⟨w.heap.size, 2, none⟩ = false ∧ w1.frozen? ⟨w.heap.size, 3, none⟩ = false := by
  refine ⟨?_, ?_, ?_, ?_, ?_, ?_, ?_, ?_⟩
  · rw [hb.cell (by simp)]; simp [go_sem]
  · rw [hb.cell (by simp)]; simp [go_sem]
  · rw [hb.cell (by simp)]; simp [go_sem]
  · rw [hb.cell (by simp)]; simp [go_sem]
  · rw [hb.frozen (by simp)]; simp [go_sem]
  · rw [hb.frozen (by simp)]; simp [go_sem]
  · rw [hb.frozen (by simp)]; simp [go_sem]
  · rw [hb.frozen (by simp)]; simp [go_sem]
theorem Bs.set4 {n : Nat} {w w1 : World} (h : Below n w w1) {b : Nat} (hb : n ≤ b) (u v x y : Value) : Below n w ((((w1.setCell ⟨b, 0, none⟩ u).setCell ⟨b, 1, none⟩ v).setCell ⟨b, 2, none⟩ x).setCell ⟨b, 3, none⟩ y) :=
  (((h.setCell hb _).setCell hb _).setCell hb _).setCell hb _
theorem Bs.val_none : Bs.val (fun _ => false) = .agg #[.int .u64 0, .int .u64 0, .int .u64 0, .int .u64 0] := by
  unfold Bs.val; simp only [Bs.word_none]; rfl
set_option maxRecDepth 100000 in
set_option maxHeartbeats 400000 in
theorem allB_any (w : World) : Calls Try.prog 102 #[] w fun e w' => e = .returned (Bs.val fun _ => true) ∧ Below w.heap.size w w' := by
  have hn := fun v => Bs.val_none ▸ notB_any (fun _ => false) v
  simp only [Bool.not_false] at hn
  have HN := Lib.hid hn; clear hn
  go_enter Try.func102, Try.ntmps102
  go_wp2_with fail
  refine (HN.out _).mono ?_
  rintro e w1 ⟨rfl, hb⟩
  unfold Bs.val
  have hn := Bs.new4 hb
  obtain ⟨n0, n1, n2, n3, m0, m1, m2, m3⟩ := hn
  go_wp2
  exact bodyPost_ret (v := .agg #[.int .u64 ↑(Bs.word (fun _ => true) 0), .int .u64 ↑(Bs.word (fun _ => true) 1), .int .u64 ↑(Bs.word (fun _ => true) 2), .int .u64 ↑(Bs.word (fun _ => true) 3)]) (by simp [results, Try.results102, go_sem, n0, n1, n2, n3]) rfl ⟨rfl, Bs.set4 (((Below.refl _ _).alloc (Nat.le_refl _) _).trans (hb.mono (by simp))) (Nat.le_refl _) _ _ _ _⟩
set_option maxRecDepth 100000 in
set_option maxHeartbeats 400000 in
theorem refHas_any (f : Nat → Bool) (c : Nat) (hc : c < 256) (w : World) : Calls Try.prog 45 #[Bs.val f, .int .u8 c] w fun e w' => e = .returned (.bool (f c)) ∧ Below w.heap.size w w' := by
  have hix := Bs.at_word f c hc
  have hw := Bs.has_word f c
  have hl := Bs.word_lt f (c / 64)
  have HW := Lib.hid hw; clear hw
  unfold Bs.val
  go_enter Try.func45, Try.ntmps45
  go_wp2
  go_loop [5, 6] (fun x i => ∃ k y : Nat, k ≤ c % 64 ∧ y < 18446744073709551616 ∧ i = .int .i64 k ∧ x = .int .u64 y ∧ Hid (y = Bs.word f (c / 64) / 2 ^ k)) (fun _ i => c % 64 - (intOf i).toNat)
  case atStart => exact ⟨0, _, Nat.zero_le _, hl, rfl, rfl, Lib.hid (by simp)⟩
  case round =>
    obtain ⟨k, y, hk, hy, rfl, rfl, HY⟩ := hrel
    by_cases hlt : k < c % 64
    · go_wp2
      go_round
      case rel => exact ⟨k + 1, y / 2, by omega, by omega, by go_num, by go_num, Lib.hid (by rw [HY.out, Nat.pow_succ, Nat.div_div_eq_div_mul])⟩
      case measure => simp [intOf]; omega
    · go_wp2
      go_ret
      refine ⟨Bs.ret_bool ?_, (Below.refl _ _).alloc (Nat.le_refl _) _⟩
      have h1 := HW.out
      have e1 : k = c % 64 := by omega
      have h2 := HY.out
      rw [e1] at h2
      rw [← h2] at h1
      rcases Bool.eq_false_or_eq_true (f c) with hf | hf <;> rw [hf] at h1 ⊢
      · simp at h1; simp; omega
      · simp at h1; simp; omega
end Go.Proofs.Ytndenipjiclkaaa
