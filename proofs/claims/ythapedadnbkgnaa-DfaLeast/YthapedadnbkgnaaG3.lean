/- What the small functions of sets answer, walked. How many bits of a number are 1, reckoned in the way of math/bits: plain facts. What OnesCount64 and Len answer, walked. Sets in memory; what Or and Of answer, walked. Regular expressions in memory; what the document's Count answers, walked. Sets as keys; sets held against each other. What the document's Same answers of the same expression, walked. The document's reader of signs: what see, take and special answer, walked. Rows that grow by append: what is kept. -/
import Derived.Test.YthapedadnbkgnaaG1
import Derived.WalkKit
import Derived.WalkSpells
import Derived.WalkLawsBesides
import Derived.LoopN
import Derived.Below
import Derived.Laws.Bits128
import Derived.Test.YthapedadnbkgnaaG2
import Derived.Deep.DeepCutAuto
import Derived.Maps.OwnSet
import Derived.DeepKeys4
import Derived.WideKeyPair
import Derived.Deep.RegionHeld3
import Derived.Deep.QuietTactic
import Derived.BigQuiet
import Derived.IntWalk
import Derived.Test.YthapedadnbkgnaaRows
import Derived.Laws.AppendOwn
import Derived.OwnWalk
namespace Go.Proofs.Ythapedadnbkgnaa
set_option linter.unusedVariables false
set_option linter.unusedSimpArgs false
open Go.RowKit
theorem Bs.ret_bool {a b : Bool} (h : a = b) : Ending.returned (.bool a) = .returned (.bool b) := by rw [h]
theorem Bs.at_word (f : Nat → Bool) (c : Nat) (hc : c < 256) : [Value.int .u64 ↑(Bs.word f 0), .int .u64 ↑(Bs.word f 1), .int .u64 ↑(Bs.word f 2), .int .u64 ↑(Bs.word f 3)][c / 64]? = some (.int .u64 ↑(Bs.word f (c / 64))) := by
  have hi : c / 64 = 0 ∨ c / 64 = 1 ∨ c / 64 = 2 ∨ c / 64 = 3 := by omega
  rcases hi with hi | hi | hi | hi <;> rw [hi] <;> rfl
theorem Bs.idx0 (a b c d : Value) (w : World) : (Instr.index 25 (.agg #[a, b, c, d]) (.int .i64 0)).run Try.prog w = .ok a w := by kernel_rfl
theorem Bs.idx1 (a b c d : Value) (w : World) : (Instr.index 25 (.agg #[a, b, c, d]) (.int .i64 1)).run Try.prog w = .ok b w := by kernel_rfl
theorem Bs.idx2 (a b c d : Value) (w : World) : (Instr.index 25 (.agg #[a, b, c, d]) (.int .i64 2)).run Try.prog w = .ok c w := by kernel_rfl
theorem Bs.idx3 (a b c d : Value) (w : World) : (Instr.index 25 (.agg #[a, b, c, d]) (.int .i64 3)).run Try.prog w = .ok d w := by kernel_rfl
theorem Bs.and_i (f g : Nat → Bool) (i : Nat) : bits .and .u64 (Bs.word f i) (Bs.word g i) = (Bs.word (fun c => f c && g c) i : Int) := by
  rw [u64_and_nat _ _ (Bs.word_lt f i) (Bs.word_lt g i), Bs.word_and]
theorem Bs.or_i (f g : Nat → Bool) (i : Nat) : bits .or .u64 (Bs.word f i) (Bs.word g i) = (Bs.word (fun c => f c || g c) i : Int) := by
  rw [u64_or_nat _ _ (Bs.word_lt f i) (Bs.word_lt g i), Bs.word_or]
theorem Bs.less_i (f g : Nat → Bool) (i : Nat) : bits .andNot .u64 (Bs.word f i) (Bs.word g i) = (Bs.word (fun c => f c && !g c) i : Int) := by
  rw [u64_andNot_nat _ _ (Bs.word_lt f i) (Bs.word_lt g i), Bs.word_less]
theorem Bs.not_i (f : Nat → Bool) (i : Nat) : bits .xor .u64 IntKind.u64.max (Bs.word f i) = (Bs.word (fun c => !f c) i : Int) := by
  have e : IntKind.u64.max = ((18446744073709551615 : Nat) : Int) := by decide
  rw [e, u64_xor_nat _ _ (by decide) (Bs.word_lt f i)]
  congr 1
  refine Bs.is_word (Nat.xor_lt_two_pow (n := 64) (by decide) (Bs.word_lt f i)) fun k hk => ?_
  rw [Nat.testBit_xor, Bs.word_bit, show 18446744073709551615 = 2 ^ 64 - 1 from rfl, Nat.testBit_two_pow_sub_one]
  simp [hk]
theorem Bs.bit_is (f : Nat → Bool) (c : Nat) : (bits BinOp.and IntKind.u64 ((Bs.word f (c / 64) : Int) / 2 ^ (c % 64)) 1 == 1) = f c := by
  have h := Bs.has_word f c
  have hl := Bs.word_lt f (c / 64)
  have e : ((Bs.word f (c / 64) : Int) / 2 ^ (c % 64)) = ((Bs.word f (c / 64) / 2 ^ (c % 64) : Nat) : Int) := by simp
  have hq : Bs.word f (c / 64) / 2 ^ (c % 64) < 18446744073709551616 := Nat.lt_of_le_of_lt (Nat.div_le_self _ _) hl
  rw [e, show (1 : Int) = ((1 : Nat) : Int) from rfl, u64_and_nat _ 1 hq (by decide), nat_mask1, h]
  cases f c <;> rfl
set_option maxRecDepth 100000 in
set_option maxHeartbeats 400000 in
theorem hasB_any (f : Nat → Bool) (c : Nat) (hc : c < 256) (w : World) : Calls Try.prog 71 #[Bs.val f, .int .u8 c] w fun e w' => e = .returned (.bool (f c)) ∧ Below w.heap.size w w' := by
  have hix := Bs.at_word f c hc
  have hb := Lib.hid (Bs.bit_is f c)
  unfold Bs.val
  go_enter Try.func71, Try.ntmps71
  go_wp2
  go_ret
  exact ⟨Bs.ret_bool hb.out, (Below.refl _ _).alloc (Nat.le_refl _) _⟩
theorem Bs.below3 (w : World) (a b c : Obj) : Below w.heap.size w (((w.alloc a).alloc b).alloc c) := (((Below.refl _ _).alloc (Nat.le_refl _) _).alloc (by simp) _).alloc (by simp; omega) _
theorem Bs.below2 (w : World) (a b : Obj) : Below w.heap.size w ((w.alloc a).alloc b) := ((Below.refl _ _).alloc (Nat.le_refl _) _).alloc (by simp) _
set_option maxRecDepth 100000 in
set_option maxHeartbeats 400000 in
theorem andB_any (f g : Nat → Bool) (w : World) : Calls Try.prog 85 #[Bs.val f, Bs.val g] w fun e w' => e = .returned (Bs.val fun c => f c && g c) ∧ Below w.heap.size w w' := by
  have i0 := Bs.idx0 (.int .u64 ↑(Bs.word g 0)) (.int .u64 ↑(Bs.word g 1)) (.int .u64 ↑(Bs.word g 2)) (.int .u64 ↑(Bs.word g 3))
  have i1 := Bs.idx1 (.int .u64 ↑(Bs.word g 0)) (.int .u64 ↑(Bs.word g 1)) (.int .u64 ↑(Bs.word g 2)) (.int .u64 ↑(Bs.word g 3))
  have i2 := Bs.idx2 (.int .u64 ↑(Bs.word g 0)) (.int .u64 ↑(Bs.word g 1)) (.int .u64 ↑(Bs.word g 2)) (.int .u64 ↑(Bs.word g 3))
  have i3 := Bs.idx3 (.int .u64 ↑(Bs.word g 0)) (.int .u64 ↑(Bs.word g 1)) (.int .u64 ↑(Bs.word g 2)) (.int .u64 ↑(Bs.word g 3))
  have a0 := Bs.and_i f g 0; have a1 := Bs.and_i f g 1; have a2 := Bs.and_i f g 2; have a3 := Bs.and_i f g 3
  unfold Bs.val
  go_enter Try.func85, Try.ntmps85
  go_wp2
  refine wp_loop_rounds 5 ?_
  rw [rounds_succ]
  go_wp2
  rw [rounds_succ]
  go_wp2
  rw [rounds_succ]
  go_wp2
  rw [rounds_succ]
  go_wp2
  rw [rounds_succ]
  go_wp2
  exact bodyPost_ret (v := .agg #[.int .u64 ↑(Bs.word (fun c => f c && g c) 0), .int .u64 ↑(Bs.word (fun c => f c && g c) 1), .int .u64 ↑(Bs.word (fun c => f c && g c) 2), .int .u64 ↑(Bs.word (fun c => f c && g c) 3)]) (by simp [results, Try.results85, go_sem]) rfl ⟨rfl, Bs.below3 _ _ _ _⟩
set_option maxRecDepth 100000 in
set_option maxHeartbeats 400000 in
theorem lessB_any (f g : Nat → Bool) (w : World) : Calls Try.prog 86 #[Bs.val f, Bs.val g] w fun e w' => e = .returned (Bs.val fun c => f c && !g c) ∧ Below w.heap.size w w' := by
  have i0 := Bs.idx0 (.int .u64 ↑(Bs.word g 0)) (.int .u64 ↑(Bs.word g 1)) (.int .u64 ↑(Bs.word g 2)) (.int .u64 ↑(Bs.word g 3))
  have i1 := Bs.idx1 (.int .u64 ↑(Bs.word g 0)) (.int .u64 ↑(Bs.word g 1)) (.int .u64 ↑(Bs.word g 2)) (.int .u64 ↑(Bs.word g 3))
  have i2 := Bs.idx2 (.int .u64 ↑(Bs.word g 0)) (.int .u64 ↑(Bs.word g 1)) (.int .u64 ↑(Bs.word g 2)) (.int .u64 ↑(Bs.word g 3))
  have i3 := Bs.idx3 (.int .u64 ↑(Bs.word g 0)) (.int .u64 ↑(Bs.word g 1)) (.int .u64 ↑(Bs.word g 2)) (.int .u64 ↑(Bs.word g 3))
  have a0 := Bs.less_i f g 0; have a1 := Bs.less_i f g 1; have a2 := Bs.less_i f g 2; have a3 := Bs.less_i f g 3
  unfold Bs.val
  go_enter Try.func86, Try.ntmps86
  go_wp2
  refine wp_loop_rounds 5 ?_
  rw [rounds_succ]
  go_wp2
  rw [rounds_succ]
  go_wp2
  rw [rounds_succ]
  go_wp2
  rw [rounds_succ]
  go_wp2
  rw [rounds_succ]
  go_wp2
  exact bodyPost_ret (v := .agg #[.int .u64 ↑(Bs.word (fun c => f c && !g c) 0), .int .u64 ↑(Bs.word (fun c => f c && !g c) 1), .int .u64 ↑(Bs.word (fun c => f c && !g c) 2), .int .u64 ↑(Bs.word (fun c => f c && !g c) 3)]) (by simp [results, Try.results86, go_sem]) rfl ⟨rfl, Bs.below3 _ _ _ _⟩
set_option maxRecDepth 100000 in
set_option maxHeartbeats 400000 in
theorem notB_any (f : Nat → Bool) (w : World) : Calls Try.prog 95 #[Bs.val f] w fun e w' => e = .returned (Bs.val fun c => !f c) ∧ Below w.heap.size w w' := by
  have i0 := Bs.idx0 (.int .u64 ↑(Bs.word f 0)) (.int .u64 ↑(Bs.word f 1)) (.int .u64 ↑(Bs.word f 2)) (.int .u64 ↑(Bs.word f 3))
  have i1 := Bs.idx1 (.int .u64 ↑(Bs.word f 0)) (.int .u64 ↑(Bs.word f 1)) (.int .u64 ↑(Bs.word f 2)) (.int .u64 ↑(Bs.word f 3))
  have i2 := Bs.idx2 (.int .u64 ↑(Bs.word f 0)) (.int .u64 ↑(Bs.word f 1)) (.int .u64 ↑(Bs.word f 2)) (.int .u64 ↑(Bs.word f 3))
  have i3 := Bs.idx3 (.int .u64 ↑(Bs.word f 0)) (.int .u64 ↑(Bs.word f 1)) (.int .u64 ↑(Bs.word f 2)) (.int .u64 ↑(Bs.word f 3))
  have a0 := Bs.not_i f 0; have a1 := Bs.not_i f 1; have a2 := Bs.not_i f 2; have a3 := Bs.not_i f 3
  have hs : IntKind.u64.signed = false := rfl
  unfold Bs.val
  go_enter Try.func95, Try.ntmps95
  go_wp2
  refine wp_loop_rounds 5 ?_
  rw [rounds_succ]
  go_wp2
  rw [rounds_succ]
  go_wp2
  rw [rounds_succ]
  go_wp2
  rw [rounds_succ]
  go_wp2
  rw [rounds_succ]
  go_wp2
  exact bodyPost_ret (v := .agg #[.int .u64 ↑(Bs.word (fun c => !f c) 0), .int .u64 ↑(Bs.word (fun c => !f c) 1), .int .u64 ↑(Bs.word (fun c => !f c) 2), .int .u64 ↑(Bs.word (fun c => !f c) 3)]) (by simp [results, Try.results95, go_sem]) rfl ⟨rfl, Bs.below2 _ _ _⟩
theorem Bs.new4 {w w1 : World} {a b c d : Value} {t : TypeId} (hb : Below (w.alloc (.cells #[a, b, c, d] t)).heap.size (w.alloc (.cells #[a, b, c, d] t)) w1) :
    w1.cell? ⟨w.heap.size, 0, none⟩ = some a ∧ w1.cell? ⟨w.heap.size, 1, none⟩ = some b ∧ w1.cell? ⟨w.heap.size, 2, none⟩ = some c ∧ w1.cell? ⟨w.heap.size, 3, none⟩ = some d ∧
    w1.frozen? ⟨w.heap.size, 0, none⟩ = false ∧ w1.frozen? ⟨w.heap.size, 1, none⟩ = false ∧ w1.frozen? ⟨w.heap.size, 2, none⟩ = false ∧ w1.frozen? ⟨w.heap.size, 3, none⟩ = false := by
  refine ⟨?_, ?_, ?_, ?_, ?_, ?_, ?_, ?_⟩
  · rw [hb.cell (by simp)]; simp [go_sem]
  · rw [hb.cell (by simp)]; simp [go_sem]
  · rw [hb.cell (by simp)]; simp [go_sem]
  · rw [hb.cell (by simp)]; simp [go_sem]
  · rw [hb.frozen (by simp)]; simp [go_sem]
  · rw [hb.frozen (by simp)]; simp [go_sem]
  · rw [hb.frozen (by simp)]; simp [go_sem]
  · rw [hb.frozen (by simp)]; simp [go_sem]
theorem Bs.set4 {n : Nat} {w w1 : World} (h : Below n w w1) {b : Nat} (hb : n ≤ b) (u v x y : Value) : Below n w ((((w1.setCell ⟨b, 0, none⟩ u).setCell ⟨b, 1, none⟩ v).setCell ⟨b, 2, none⟩ x).setCell ⟨b, 3, none⟩ y) :=
  (((h.setCell hb _).setCell hb _).setCell hb _).setCell hb _
theorem Bs.val_none : Bs.val (fun _ => false) = .agg #[.int .u64 0, .int .u64 0, .int .u64 0, .int .u64 0] := by
  unfold Bs.val; simp only [Bs.word_none]; rfl
set_option maxRecDepth 100000 in
set_option maxHeartbeats 400000 in
theorem allB_any (w : World) : Calls Try.prog 84 #[] w fun e w' => e = .returned (Bs.val fun _ => true) ∧ Below w.heap.size w w' := by
  have hn := fun v => Bs.val_none ▸ notB_any (fun _ => false) v
  simp only [Bool.not_false] at hn
  have HN := Lib.hid hn; clear hn
  go_enter Try.func84, Try.ntmps84
  go_wp2_with fail
  refine (HN.out _).mono ?_
  rintro e w1 ⟨rfl, hb⟩
  unfold Bs.val
  have hn := Bs.new4 hb
  obtain ⟨n0, n1, n2, n3, m0, m1, m2, m3⟩ := hn
  go_wp2
  exact bodyPost_ret (v := .agg #[.int .u64 ↑(Bs.word (fun _ => true) 0), .int .u64 ↑(Bs.word (fun _ => true) 1), .int .u64 ↑(Bs.word (fun _ => true) 2), .int .u64 ↑(Bs.word (fun _ => true) 3)]) (by simp [results, Try.results84, go_sem, n0, n1, n2, n3]) rfl ⟨rfl, Bs.set4 (((Below.refl _ _).alloc (Nat.le_refl _) _).trans (hb.mono (by simp))) (Nat.le_refl _) _ _ _ _⟩
end Go.Proofs.Ythapedadnbkgnaa
namespace Go.Proofs.Ythapedadnbkgnaa
set_option linter.unusedVariables false
set_option linter.unusedSimpArgs false
def Bs.cnt (g : Nat → Bool) : Nat → Nat
  | 0 => 0
  | n + 1 => Bs.cnt g n + if g n then 1 else 0
theorem Bs.cnt_succ (g : Nat → Bool) (n : Nat) : Bs.cnt g (n + 1) = Bs.cnt g n + if g n then 1 else 0 := rfl
theorem Bs.cnt_add (g : Nat → Bool) (a : Nat) : ∀ n, Bs.cnt g (a + n) = Bs.cnt g a + Bs.cnt (fun k => g (a + k)) n
  | 0 => by simp [Bs.cnt]
  | n + 1 => by rw [← Nat.add_assoc, Bs.cnt_succ, Bs.cnt_succ, Bs.cnt_add g a n]; omega
theorem Bs.cnt_le (g : Nat → Bool) : ∀ n, Bs.cnt g n ≤ n
  | 0 => by simp [Bs.cnt]
  | n + 1 => by have := Bs.cnt_le g n; rw [Bs.cnt_succ]; split <;> omega
def Bs.ones : Nat → Nat → Nat
  | 0, _ => 0
  | n + 1, x => x % 2 + Bs.ones n (x / 2)
def Bs.m1 : Nat → Nat | 0 => 0 | n + 1 => 1 + 2 ^ 2 * Bs.m1 n
def Bs.m2 : Nat → Nat | 0 => 0 | n + 1 => 3 + 2 ^ 4 * Bs.m2 n
def Bs.p4 (d : Nat) : Nat := d % 2 + d / 2 % 2 + d / 4 % 2 + d / 8 % 2
open Go.RowKit
theorem Bs.wrap_nat {n : Nat} (h : n < 18446744073709551616) : IntKind.u64.wrap (n : Int) = n := by rw [IntKind.wrap_u64]; omega
end Go.Proofs.Ythapedadnbkgnaa
namespace Go.Proofs.Ythapedadnbkgnaa
set_option linter.unusedVariables false
set_option linter.unusedSimpArgs false
open Go.RowKit
theorem Bs.cell_up {w w1 : World} (hb : Below w.heap.size w w1) {a : Addr} {v : Value} (h : w.cell? a = some v) : w1.cell? a = some v := by rw [hb.cell (World.block_lt_of_cell? w _ h)]; exact h
theorem Bs.frz_up {w w1 : World} (hb : Below w.heap.size w w1) {a : Addr} {v : Value} (h : w.cell? a = some v) (hf : w.frozen? a = false) : w1.frozen? a = false := by rw [hb.frozen (World.block_lt_of_cell? w _ h)]; exact hf
theorem Bs.below_up {w v v' : World} (h : Below w.heap.size w v) (h' : Below v.heap.size v v') : Below w.heap.size w v' := h.trans (h'.mono h.size)
theorem Bs.below1 (w : World) (o : Obj) : Below w.heap.size w (w.alloc o) := (Below.refl _ _).alloc (Nat.le_refl _) _
theorem Bs.cell_set {w : World} {a p : Addr} {v u : Value} (h : w.cell? a = some v) (hn : p.block ≠ a.block) : (w.setCell p u).cell? a = some v := by
  rw [World.cell?_setCell_other _ _ _ _ (by rintro rfl; exact hn rfl)]; exact h
structure Bs.Box (w : World) (b : Nat) (f : Nat → Bool) : Prop where
  cell : ∀ i, i < 4 → w.cell? ⟨b, i, none⟩ = some (.int .u64 (Bs.word f i))
  frz : ∀ i, i < 4 → w.frozen? ⟨b, i, none⟩ = false
theorem Bs.Box.lt {w : World} {b : Nat} {f : Nat → Bool} (h : Bs.Box w b f) : b < w.heap.size := World.block_lt_of_cell? w _ (h.cell 0 (by decide))
theorem Bs.Box.up {w w1 : World} {b : Nat} {f : Nat → Bool} (h : Bs.Box w b f) (hb : Below w.heap.size w w1) : Bs.Box w1 b f :=
  ⟨fun i hi => Bs.cell_up hb (h.cell i hi), fun i hi => Bs.frz_up hb (h.cell i hi) (h.frz i hi)⟩
theorem Bs.Box.far {w : World} {b d i : Nat} {f : Nat → Bool} (h : Bs.Box w b f) (hn : d ≠ b) (v : Value) : Bs.Box (w.setCell ⟨d, i, none⟩ v) b f :=
  ⟨fun j hj => Bs.cell_set (h.cell j hj) hn, fun j hj => by simpa using h.frz j hj⟩
theorem Bs.Box.far4 {w : World} {b d : Nat} {f : Nat → Bool} (h : Bs.Box w b f) (hn : d ≠ b) (x y z u : Value) : Bs.Box ((((w.setCell ⟨d, 0, none⟩ x).setCell ⟨d, 1, none⟩ y).setCell ⟨d, 2, none⟩ z).setCell ⟨d, 3, none⟩ u) b f :=
  (((h.far hn _).far hn _).far hn _).far hn _
theorem Bs.Box.drew {w : World} {b : Nat} {f : Nat → Bool} (h : Bs.Box w b f) : Bs.Box w.drew b f := ⟨h.cell, h.frz⟩
theorem Bs.four {i : Nat} (h : i < 4) : i = 0 ∨ i = 1 ∨ i = 2 ∨ i = 3 := by omega
theorem Bs.box_new (w : World) (f : Nat → Bool) (t : TypeId) : Bs.Box (w.alloc (.cells #[.int .u64 (Bs.word f 0), .int .u64 (Bs.word f 1), .int .u64 (Bs.word f 2), .int .u64 (Bs.word f 3)] t)) w.heap.size f := by
  constructor <;> intro i hi <;> rcases Bs.four hi with rfl | rfl | rfl | rfl <;> simp [go_sem]
theorem Bs.box_zero (w : World) (t : TypeId) : Bs.Box (w.alloc (.cells #[.int .u64 0, .int .u64 0, .int .u64 0, .int .u64 0] t)) w.heap.size (fun _ => false) := by
  have h := Bs.box_new w (fun _ => false) t
  simp only [Bs.word_none] at h
  exact h
theorem Bs.Box.write {w : World} {b : Nat} {f : Nat → Bool} (h : Bs.Box w b f) (g : Nat → Bool) :
    Bs.Box ((((w.setCell ⟨b, 0, none⟩ (.int .u64 (Bs.word g 0))).setCell ⟨b, 1, none⟩ (.int .u64 (Bs.word g 1))).setCell ⟨b, 2, none⟩ (.int .u64 (Bs.word g 2))).setCell ⟨b, 3, none⟩ (.int .u64 (Bs.word g 3))) b g := by
  have c0 := h.cell 0 (by decide); have c1 := h.cell 1 (by decide); have c2 := h.cell 2 (by decide); have c3 := h.cell 3 (by decide)
  have f0 := h.frz 0 (by decide); have f1 := h.frz 1 (by decide); have f2 := h.frz 2 (by decide); have f3 := h.frz 3 (by decide)
  constructor <;> intro i hi <;> rcases Bs.four hi with rfl | rfl | rfl | rfl <;> simp [go_sem, c0, c1, c2, c3, f0, f1, f2, f3]
theorem Bs.Box.put {w : World} {b i : Nat} {f g : Nat → Bool} (h : Bs.Box w b f) (hi : i < 4) (hg : ∀ j, j < 4 → j ≠ i → Bs.word g j = Bs.word f j) : Bs.Box (w.setCell ⟨b, i, none⟩ (.int .u64 (Bs.word g i))) b g := by
  refine ⟨fun j hj => ?_, fun j hj => by simpa using h.frz j hj⟩
  by_cases hij : j = i
  · subst hij
    have := h.cell j hj
    simp [go_sem, this]
  · rw [World.cell?_setCell_other _ _ _ _ (by simp [Ne.symm hij]), h.cell j hj, hg j hj hij]
structure Bs.At (w : World) (x : Addr) (f : Nat → Bool) : Prop where
  c0 : w.cell? x = some (.int .u64 (Bs.word f 0))
  c1 : w.cell? ⟨x.block, x.off + 1, none⟩ = some (.int .u64 (Bs.word f 1))
  c2 : w.cell? ⟨x.block, x.off + 2, none⟩ = some (.int .u64 (Bs.word f 2))
  c3 : w.cell? ⟨x.block, x.off + 3, none⟩ = some (.int .u64 (Bs.word f 3))
theorem Bs.At.up {w w' : World} {x : Addr} {f : Nat → Bool} (h : Bs.At w x f) (hb : Below w.heap.size w w') : Bs.At w' x f := ⟨Bs.cell_up hb h.c0, Bs.cell_up hb h.c1, Bs.cell_up hb h.c2, Bs.cell_up hb h.c3⟩
def Bs.Row (w : World) (a : Option Addr) (fs : List (Nat → Bool)) : Prop := ∀ i (h : i < fs.length), ∃ x, a = some x ∧ Bs.At w (x.add (i * 4)) fs[i]
theorem Bs.Row.up {w w' : World} {a : Option Addr} {fs : List (Nat → Bool)} (h : Bs.Row w a fs) (hb : Below w.heap.size w w') : Bs.Row w' a fs := fun i hi => by
  obtain ⟨x, e, h⟩ := h i hi
  exact ⟨x, e, h.up hb⟩
def Bs.orL (fs : List (Nat → Bool)) : Nat → Bool := fun c => fs.any fun f => f c
theorem Bs.orL_snoc (fs : List (Nat → Bool)) (k : Nat) (hk : k < fs.length) : Bs.orL (fs.take (k + 1)) = fun c => Bs.orL (fs.take k) c || fs[k] c := by
  funext c
  unfold Bs.orL
  rw [List.take_succ_eq_append_getElem hk, List.any_append]
  simp
set_option maxRecDepth 100000 in
set_option maxHeartbeats 1000000 in
theorem orB_any (a : Option Addr) (fs : List (Nat → Bool)) (cap : Nat) (w : World) (hR : Bs.Row w a fs) (hn : fs.length ≤ 1000000) :
    Calls Try.prog 106 #[.slice a fs.length cap] w fun e w' => e = .returned (Bs.val (Bs.orL fs)) ∧ Below w.heap.size w w' := by
  have HR := Lib.hid hR; clear hR
  go_enter Try.func106, Try.ntmps106
  go_wp2_with fail
  have B0 := (Bs.box_zero w 25).up (Bs.below1 _ (.cells #[.int .u64 0, .int .u64 0, .int .u64 0, .int .u64 0] 25))
  have B1 := Bs.box_zero (w.alloc (.cells #[.int .u64 0, .int .u64 0, .int .u64 0, .int .u64 0] 25)) 25
  have eN : (w.alloc (.cells #[.int .u64 0, .int .u64 0, .int .u64 0, .int .u64 0] 25)).heap.size = w.heap.size + 1 := by simp [go_sem]
  rw [eN] at B1
  have B : Below w.heap.size w ((w.alloc (.cells #[.int .u64 0, .int .u64 0, .int .u64 0, .int .u64 0] 25)).alloc (.cells #[.int .u64 0, .int .u64 0, .int .u64 0, .int .u64 0] 25)) := Bs.below2 _ _ _
  clear eN
  generalize (w.alloc (.cells #[.int .u64 0, .int .u64 0, .int .u64 0, .int .u64 0] 25)).alloc (.cells #[.int .u64 0, .int .u64 0, .int .u64 0, .int .u64 0] 25) = W at *
  go_loopw [10] (fun i wr => ∃ k : Nat, k ≤ fs.length ∧ i = .int .i64 k ∧ Bs.Box wr (w.heap.size + 1) (Bs.orL (fs.take k)) ∧ Bs.Box wr w.heap.size (fun _ => false) ∧ Below w.heap.size w wr) (fun i _ => fs.length - (intOf i).toNat)
  case atStart => exact ⟨0, Nat.zero_le _, rfl, B1, B0, B⟩
  case round =>
    clear B0 B1 B
    obtain ⟨k, hk, rfl, B1, B0, B⟩ := hrel
    have n1 : w.heap.size ≠ w.heap.size + 1 := by omega
    have m1 : w.heap.size ≤ w.heap.size + 1 := by omega
    by_cases hlt : k < fs.length
    · obtain ⟨x, rfl, hx⟩ := HR.out k hlt
      replace hx := hx.up B
      obtain ⟨x0, x1, x2, x3⟩ := hx
      have hsn := Bs.orL_snoc fs k hlt
      have HSN := Lib.hid hsn; clear hsn
      have i0 := Bs.idx0 (.int .u64 ↑(Bs.word fs[k] 0)) (.int .u64 ↑(Bs.word fs[k] 1)) (.int .u64 ↑(Bs.word fs[k] 2)) (.int .u64 ↑(Bs.word fs[k] 3))
      have i1 := Bs.idx1 (.int .u64 ↑(Bs.word fs[k] 0)) (.int .u64 ↑(Bs.word fs[k] 1)) (.int .u64 ↑(Bs.word fs[k] 2)) (.int .u64 ↑(Bs.word fs[k] 3))
      have i2 := Bs.idx2 (.int .u64 ↑(Bs.word fs[k] 0)) (.int .u64 ↑(Bs.word fs[k] 1)) (.int .u64 ↑(Bs.word fs[k] 2)) (.int .u64 ↑(Bs.word fs[k] 3))
      have i3 := Bs.idx3 (.int .u64 ↑(Bs.word fs[k] 0)) (.int .u64 ↑(Bs.word fs[k] 1)) (.int .u64 ↑(Bs.word fs[k] 2)) (.int .u64 ↑(Bs.word fs[k] 3))
      have a0 := Bs.or_i (Bs.orL (fs.take k)) fs[k] 0; have a1 := Bs.or_i (Bs.orL (fs.take k)) fs[k] 1; have a2 := Bs.or_i (Bs.orL (fs.take k)) fs[k] 2; have a3 := Bs.or_i (Bs.orL (fs.take k)) fs[k] 3
      have A := Bs.below1 wr (.cells #[.int .u64 ↑(Bs.word fs[k] 0), .int .u64 ↑(Bs.word fs[k] 1), .int .u64 ↑(Bs.word fs[k] 2), .int .u64 ↑(Bs.word fs[k] 3)] 25)
      have Y := Bs.box_new wr fs[k] 25
      have B1' := B1.up A
      have y0 := Y.cell 0 (by decide); have y1 := Y.cell 1 (by decide); have y2 := Y.cell 2 (by decide); have y3 := Y.cell 3 (by decide)
      have b0 := B1'.cell 0 (by decide); have b1 := B1'.cell 1 (by decide); have b2 := B1'.cell 2 (by decide); have b3 := B1'.cell 3 (by decide)
      have g0 := B1'.frz 0 (by decide); have g1 := B1'.frz 1 (by decide); have g2 := B1'.frz 2 (by decide); have g3 := B1'.frz 3 (by decide)
      go_wp2_with fail
      generalize wr.alloc (.cells #[.int .u64 ↑(Bs.word fs[k] 0), .int .u64 ↑(Bs.word fs[k] 1), .int .u64 ↑(Bs.word fs[k] 2), .int .u64 ↑(Bs.word fs[k] 3)] 25) = V at *
      refine wp_loop_rounds 5 ?_
      rw [rounds_succ]
      go_wp2_with fail
      rw [rounds_succ]
      go_wp2_with fail
      rw [rounds_succ]
      go_wp2_with fail
      rw [rounds_succ]
      go_wp2_with fail
      rw [rounds_succ]
      go_wp2_with fail
      go_roundw
      case rel =>
        refine ⟨k + 1, by omega, by go_num, ?_, (B0.up A).far4 (Ne.symm n1) _ _ _ _, Bs.set4 (Bs.below_up B A) m1 _ _ _ _⟩
        rw [HSN.out]
        exact B1'.write _
      case measure => simp [intOf]; omega
    · have e1 : fs.take k = fs := List.take_of_length_le (by omega)
      rw [e1] at B1
      clear e1
      have b0 := B1.cell 0 (by decide); have b1 := B1.cell 1 (by decide); have b2 := B1.cell 2 (by decide); have b3 := B1.cell 3 (by decide)
      have z0 := B0.cell 0 (by decide); have z1 := B0.cell 1 (by decide); have z2 := B0.cell 2 (by decide); have z3 := B0.cell 3 (by decide)
      have g0 := B0.frz 0 (by decide); have g1 := B0.frz 1 (by decide); have g2 := B0.frz 2 (by decide); have g3 := B0.frz 3 (by decide)
      go_wp2_with fail
      exact bodyPost_ret (v := .agg #[.int .u64 ↑(Bs.word (Bs.orL fs) 0), .int .u64 ↑(Bs.word (Bs.orL fs) 1), .int .u64 ↑(Bs.word (Bs.orL fs) 2), .int .u64 ↑(Bs.word (Bs.orL fs) 3)]) (by simp [results, Try.results106, go_sem, z0, z1, z2, z3]) rfl ⟨rfl, Bs.set4 B (Nat.le_refl _) _ _ _ _⟩
end Go.Proofs.Ythapedadnbkgnaa
namespace Go.Proofs.Ythapedadnbkgnaa
set_option linter.unusedVariables false
set_option linter.unusedSimpArgs false
open Go.RowKit
structure Rx.Cell (w : World) (x : Addr) (k : Nat) (f : Nat → Bool) (a : Option Addr) (n cap : Nat) : Prop where
  c0 : w.cell? x = some (.int .u8 k)
  c1 : w.cell? ⟨x.block, x.off + 1, none⟩ = some (.int .u64 (Bs.word f 0))
  c2 : w.cell? ⟨x.block, x.off + 2, none⟩ = some (.int .u64 (Bs.word f 1))
  c3 : w.cell? ⟨x.block, x.off + 3, none⟩ = some (.int .u64 (Bs.word f 2))
  c4 : w.cell? ⟨x.block, x.off + 4, none⟩ = some (.int .u64 (Bs.word f 3))
  c5 : w.cell? ⟨x.block, x.off + 5, none⟩ = some (.slice a n cap)
theorem Rx.Cell.up {w w' : World} {x : Addr} {k : Nat} {f : Nat → Bool} {a : Option Addr} {n cap : Nat} (h : Rx.Cell w x k f a n cap) (hb : Below w.heap.size w w') : Rx.Cell w' x k f a n cap :=
  ⟨Bs.cell_up hb h.c0, Bs.cell_up hb h.c1, Bs.cell_up hb h.c2, Bs.cell_up hb h.c3, Bs.cell_up hb h.c4, Bs.cell_up hb h.c5⟩
mutual
def Rx.In (w : World) : Rx → Addr → Prop
  | .node k f l, x => k < 256 ∧ ∃ a cap, Rx.Cell w x k f a l.length cap ∧ Rx.InL w l a 0
def Rx.InL (w : World) : List Rx → Option Addr → Nat → Prop
  | [], _, _ => True
  | y :: r, a, i => (∃ p, a = some p ∧ Rx.In w y (p.add (i * 6))) ∧ Rx.InL w r a (i + 1)
end
def Rx.hdr (k : Nat) (f : Nat → Bool) (a : Option Addr) (n cap : Nat) : Value := .agg #[.int .u8 k, .int .u64 (Bs.word f 0), .int .u64 (Bs.word f 1), .int .u64 (Bs.word f 2), .int .u64 (Bs.word f 3), .slice a n cap]
def Rx.Is (w : World) : Rx → Value → Prop
  | .node k f l, v => k < 256 ∧ ∃ a cap, v = Rx.hdr k f a l.length cap ∧ Rx.InL w l a 0
mutual
theorem Rx.In.up {w w' : World} (hb : Below w.heap.size w w') : ∀ {x : Rx} {p : Addr}, Rx.In w x p → Rx.In w' x p
  | .node k f l, p, h => by
    simp only [Rx.In] at h ⊢
    obtain ⟨hk, a, cap, hc, hl⟩ := h
    exact ⟨hk, a, cap, hc.up hb, Rx.InL.up hb hl⟩
theorem Rx.InL.up {w w' : World} (hb : Below w.heap.size w w') : ∀ {l : List Rx} {a : Option Addr} {i : Nat}, Rx.InL w l a i → Rx.InL w' l a i
  | [], _, _, _ => by simp [Rx.InL]
  | y :: r, a, i, h => by
    simp only [Rx.InL] at h ⊢
    obtain ⟨⟨p, e, hp⟩, hr⟩ := h
    exact ⟨⟨p, e, Rx.In.up hb hp⟩, Rx.InL.up hb hr⟩
end
theorem Rx.Is.up {w w' : World} (hb : Below w.heap.size w w') {x : Rx} {v : Value} (h : Rx.Is w x v) : Rx.Is w' x v := by
  cases x
  obtain ⟨hk, a, cap, e, hl⟩ := h
  exact ⟨hk, a, cap, e, hl.up hb⟩
theorem Rx.InL.get {w : World} : ∀ {l : List Rx} {a : Option Addr} {i : Nat}, Rx.InL w l a i → ∀ j (h : j < l.length), ∃ p, a = some p ∧ Rx.In w l[j] (p.add ((i + j) * 6))
  | [], _, _, _, j, h => by simp at h
  | y :: r, a, i, hl, j, h => by
    simp only [Rx.InL] at hl
    cases j with
    | zero => simpa using hl.1
    | succ j =>
      obtain ⟨p, e, hp⟩ := Rx.InL.get hl.2 j (by simpa using h)
      refine ⟨p, e, ?_⟩
      rw [show i + 1 + j = i + (j + 1) by omega] at hp
      simpa using hp
theorem Rx.InL.of {w : World} : ∀ {l : List Rx} {a : Option Addr} {i : Nat}, (∀ j (h : j < l.length), ∃ p, a = some p ∧ Rx.In w l[j] (p.add ((i + j) * 6))) → Rx.InL w l a i
  | [], _, _, _ => by simp [Rx.InL]
  | y :: r, a, i, hl => by
    simp only [Rx.InL]
    refine ⟨by have h0 := hl 0 (by simp); rw [Nat.add_zero, List.getElem_cons_zero] at h0; exact h0, Rx.InL.of fun j h => ?_⟩
    obtain ⟨p, e, hp⟩ := hl (j + 1) (by simpa using h)
    refine ⟨p, e, ?_⟩
    rw [show i + 1 + j = i + (j + 1) by omega]
    simpa using hp
def Rx.cntI : Option Nat → Int
  | none => -1
  | some n => n
theorem Rx.cnt_le {x : Rx} {d j : Nat} (hd : 1 ≤ d) (h : x.cnt d = some j) : 1 ≤ j ∧ j ≤ 400 := by
  rw [Rx.cnt_eq x d hd] at h
  split at h
  · rename_i hm
    injection h with h
    have := (Rx.may_iff.1 hm).2.2; have := x.size_pos; omega
  · simp at h
def Rx.CPost (w : World) (n : Option Nat) (e : Ending) (w' : World) : Prop := e = .returned (.int .i64 (Rx.cntI n)) ∧ Below w.heap.size w w'
theorem Rx.cell_new (w : World) (k : Nat) (f : Nat → Bool) (a : Option Addr) (n cap : Nat) (t : TypeId) : Rx.Cell (w.alloc (.cells #[.int .u8 k, .int .u64 (Bs.word f 0), .int .u64 (Bs.word f 1), .int .u64 (Bs.word f 2), .int .u64 (Bs.word f 3), .slice a n cap] t)) ⟨w.heap.size, 0, none⟩ k f a n cap := by
  constructor <;> simp [go_sem]
set_option maxRecDepth 100000 in
set_option maxHeartbeats 1000000 in
theorem refCount_any : ∀ (m : Nat) (x : Rx), x.size ≤ m → ∀ (v : Value) (d : Nat) (w : World), Rx.Is w x v → 1 ≤ d → d ≤ 61 → Calls Try.prog 21 #[v, .int .i64 d] w (Rx.CPost w (x.cnt d)) := by
  intro m
  induction m with
  | zero => intro x h; have := x.size_pos; omega
  | succ m ih =>
    rintro ⟨k, f, l⟩ hm v d w hx h1 h61
    obtain ⟨hk, a, cap, rfl, hl⟩ := hx
    simp only [Rx.size] at hm
    have IH := Lib.hid ih; clear ih
    have HL := Lib.hid hl; clear hl
    have C := Rx.cell_new w k f a l.length cap 28
    have B := Bs.below1 w (.cells #[.int .u8 k, .int .u64 (Bs.word f 0), .int .u64 (Bs.word f 1), .int .u64 (Bs.word f 2), .int .u64 (Bs.word f 3), .slice a l.length cap] 28)
    have HC := Lib.hid (show (Rx.node k f l).cnt d = _ from by rw [Rx.cnt])
    unfold Rx.hdr
    obtain ⟨n, hn⟩ : ∃ n, l.length = n := ⟨_, rfl⟩
    have HN := Lib.hid hn
    rw [hn] at C B HC ⊢
    clear hn
    go_enter Try.func21, Try.ntmps21
    obtain ⟨c0, _, _, _, _, c5⟩ := C
    simp only [Nat.zero_add] at c0 c5
    by_cases ta : 60 < d
    · have e : decide ((60 : Int) < d) = true := by simp; omega
      go_wp2_with fail
      go_ret
      exact ⟨by rw [HC.out]; simp [ta, Rx.cntI], B⟩
    have ea : decide ((60 : Int) < d) = false := by simp; omega
    by_cases tb : 4 < k
    · have e : decide ((4 : Int) < k) = true := by simp; omega
      go_wp2_with fail
      go_ret
      exact ⟨by rw [HC.out]; simp [tb, Rx.cntI], B⟩
    have eb : decide ((4 : Int) < k) = false := by simp; omega
    by_cases tc : 400 < n
    · have e : decide ((400 : Int) < n) = true := by simp; omega
      go_wp2_with fail
      go_ret
      exact ⟨by rw [HC.out]; simp [tc, Rx.cntI], B⟩
    have ec : decide ((400 : Int) < n) = false := by simp; omega
    have HD := Lib.hid (show (Rx.node k f l).cnt d = if (decide (k < 2) && decide (0 < n) || k == 4 && n != 1) = true then none else Rx.cntL l (d + 1) 1 by
      rw [HC.out, if_neg]; simp; omega)
    clear HC
    go_upto_region 3 with fail
    go_cut [40] (fun s40 wx => s40 = .bool (decide (k < 2) && decide (0 < n) || k == 4 && n != 1) ∧ Rx.Cell wx ⟨w.heap.size, 0, none⟩ k f a n cap ∧ Below w.heap.size w wx)
    case first =>
      have C' := Rx.cell_new w k f a n cap 28
      by_cases t2 : k < 2
      · have e2 : decide ((k : Int) < 2) = true := by simp; omega
        by_cases t3 : 0 < n
        · have e3 : decide ((0 : Int) < n) = true := by simp; omega
          go_wp2_with fail
          go_meet
          exact ⟨by simp [t2, t3], C', B⟩
        · have e3 : decide ((0 : Int) < n) = false := by simp; omega
          have e4 : ((k : Int) == 4) = false := by simp; omega
          have e5 : (k == 4) = false := by simp; omega
          go_wp2_with fail
          go_meet
          exact ⟨by simp [t3, e5], C', B⟩
      · have e2 : decide ((k : Int) < 2) = false := by simp; omega
        by_cases t4 : k = 4
        · have e4 : ((k : Int) == 4) = true := by simp; omega
          have e6 : ((n : Int) != 1) = (n != 1) := by rw [Bool.eq_iff_iff]; simp; omega
          have T4 := Lib.hid t4; clear t4
          go_wp2_with fail
          go_meet
          exact ⟨by simp [t2, T4.out, e6], C', B⟩
        · have e4 : ((k : Int) == 4) = false := by simp; omega
          have e5 : (k == 4) = false := by simp; omega
          go_wp2_with fail
          go_meet
          exact ⟨by simp [t2, e5], C', B⟩
    case rest =>
      clear c0 c5 B
      obtain ⟨rfl, C, B⟩ := hcut
      cases tk : (decide (k < 2) && decide (0 < n) || k == 4 && n != 1)
      · have HE := Lib.hid (show (Rx.node k f l).cnt d = Rx.cntL l (d + 1) 1 by rw [HD.out, tk]; simp)
        clear HD
        go_wp2_with fail
        go_loopw [5, 6] (fun c i wr => ∃ q z : Nat, q ≤ n ∧ i = .int .i64 q ∧ c = .int .i64 z ∧ z ≤ 400 ∧ Rx.Cell wr ⟨w.heap.size, 0, none⟩ k f a n cap ∧ Below w.heap.size w wr ∧ Rx.cntL (l.drop q) (d + 1) z = Rx.cntL l (d + 1) 1) (fun _ i _ => n - (intOf i).toNat)
        case atStart => exact ⟨0, 1, by omega, rfl, rfl, by omega, C, B, by simp⟩
        case round =>
          clear C B
          obtain ⟨q, z, hq, rfl, rfl, hz, C, B, hcn⟩ := hrel
          have HCN := Lib.hid hcn; clear hcn
          obtain ⟨c0, c1, c2, c3, c4, c5⟩ := C
          simp only [Nat.zero_add] at c0 c1 c2 c3 c4 c5
          by_cases hlt : q < n
          · have hlt' : q < l.length := by rw [HN.out]; exact hlt
            obtain ⟨p, rfl, hp⟩ := HL.out.get q hlt'
            rw [Nat.zero_add] at hp
            replace hp := hp.up B
            have HS := Lib.hid (Rx.part_le (List.getElem_mem hlt'))
            have HD0 := Lib.hid (fun (h : Rx.cnt l[q] (d + 1) = none) => show Rx.cntL (l.drop q) (d + 1) z = none by rw [List.drop_eq_getElem_cons hlt', Rx.cntL, h])
            have HD1 := Lib.hid (fun (j : Nat) (h : Rx.cnt l[q] (d + 1) = some j) => show Rx.cntL (l.drop q) (d + 1) z = if 400 < z + j then none else Rx.cntL (l.drop (q + 1)) (d + 1) (z + j) by rw [List.drop_eq_getElem_cons hlt', Rx.cntL, h])
            have hv : ∃ k' f' a' n' cap', Rx.Cell wr (p.add (q * 6)) k' f' a' n' cap' ∧ Rx.Is wr l[q] (Rx.hdr k' f' a' n' cap') := by
              generalize l[q] = y at hp
              obtain ⟨k', f', l'⟩ := y
              simp only [Rx.In] at hp
              obtain ⟨h1, a', cap', h2, h3⟩ := hp
              exact ⟨k', f', a', _, cap', h2, h1, a', cap', rfl, h3⟩
            obtain ⟨k', f', a', n', cap', hc, hy⟩ := hv
            obtain ⟨y0, y1, y2, y3, y4, y5⟩ := hc
            go_wp2_with fail
            have IQ := IH.out l[q] (by have := HS.out.1; omega) _ (d + 1) wr hy (by omega) (by omega)
            rw [show ((d + 1 : Nat) : Int) = (d : Int) + 1 by simp] at IQ
            unfold Rx.hdr at IQ
            refine IQ.mono ?_
            rintro e w1 ⟨rfl, hb⟩
            replace c0 := Bs.cell_up hb c0
            replace c5 := Bs.cell_up hb c5
            replace c1 := Bs.cell_up hb c1
            replace c2 := Bs.cell_up hb c2
            replace c3 := Bs.cell_up hb c3
            replace c4 := Bs.cell_up hb c4
            replace B := Bs.below_up B hb
            clear y0 y1 y2 y3 y4 y5 hy IQ hb hp
            cases hj : Rx.cnt l[q] (d + 1) with
            | none =>
              have E := HD0.out hj
              rw [HCN.out] at E
              have E' := Lib.hid (HE.out.trans E); clear E HD0 HD1 hj
              simp only [Rx.cntI]
              go_wp2_with fail
              go_ret
              exact ⟨by rw [E'.out]; rfl, B⟩
            | some j =>
              have j400 := (Rx.cnt_le (by omega) hj).2
              have E := HD1.out j hj
              rw [HCN.out] at E
              have E' := Lib.hid (HE.out.trans E); have E := Lib.hid E; clear HD0 HD1 hj
              have hj0 : ¬ ((j : Int) < 0) := by omega
              simp only [Rx.cntI]
              by_cases ht : 400 < z + j
              · have e7 : decide ((400 : Int) < (z : Int) + j) = true := by simp; omega
                go_wp2_with fail
                go_ret
                exact ⟨by rw [E'.out, if_pos ht]; rfl, B⟩
              · have e7 : decide ((400 : Int) < (z : Int) + j) = false := by simp; omega
                go_wp2_with fail
                go_roundw
                case rel => exact ⟨q + 1, z + j, by omega, by go_num, by go_num, by omega, ⟨c0, by simpa using c1, by simpa using c2, by simpa using c3, by simpa using c4, by simpa using c5⟩, B, by rw [E.out, if_neg ht]⟩
                case measure => simp [intOf]; omega
          · have e8 : l.drop q = [] := List.drop_eq_nil_of_le (by rw [HN.out]; omega)
            have E := HCN.out
            rw [e8, Rx.cntL] at E
            have E' := Lib.hid (HE.out.trans E.symm); clear E e8
            go_wp2_with fail
            go_ret
            exact ⟨by rw [E'.out]; rfl, B⟩
      · go_wp2_with fail
        go_ret
        exact ⟨by rw [HD.out, tk]; simp [Rx.cntI], B⟩
end Go.Proofs.Ythapedadnbkgnaa
namespace Go.Proofs.Ythapedadnbkgnaa
set_option linter.unusedVariables false
set_option linter.unusedSimpArgs false
open Go.RowKit
open Go.Maps (Keyed)
set_option maxRecDepth 100000 in
theorem Bs.laidOut : laidOutB Try.prog = true := by kernel_rfl
set_option maxRecDepth 100000 in
theorem Bs.rowSet : (25 : TypeId) < Try.prog.types.size := of_decide_eq_true (by kernel_rfl)
set_option maxRecDepth 100000 in
theorem Bs.wideSet : (match Try.prog.underlying 25 with | some (.array _ _) | some (.struct _) => true | _ => false) = true := by rw [Try.underlying25]
set_option maxRecDepth 100000 in
theorem Bs.keyed : Keyed Try.prog 25 := Keyed.of_law (deep_law_laid Bs.laidOut (m := 2) (by omega) Bs.rowSet (by kernel_rfl) Bs.wideSet)
set_option maxRecDepth 100000 in
theorem Bs.arrKey : WideMaps.ArrKey Try.prog 25 23 4 := ⟨Try.underlying25, by kernel_rfl, by kernel_rfl, by kernel_rfl⟩
def Bs.key (f : Nat → Bool) : Lit := .string (keyBytes [.int .u64 (Bs.word f 0), .int .u64 (Bs.word f 1), .int .u64 (Bs.word f 2), .int .u64 (Bs.word f 3)])
set_option maxRecDepth 100000 in
theorem Bs.wf_word (f : Nat → Bool) (i : Nat) : (Lit.int .u64 (Bs.word f i)).wf = true := by
  have := Bs.word_lt f i
  simp [Lit.wf, IntKind.min, IntKind.max, IntKind.signed, IntKind.bits]
  omega
set_option maxRecDepth 100000 in
theorem Bs.keyOf_val (f : Nat → Bool) : keyOf Try.prog 25 (.agg #[.int .u64 (Bs.word f 0), .int .u64 (Bs.word f 1), .int .u64 (Bs.word f 2), .int .u64 (Bs.word f 3)]) = some (Bs.key f) := by
  have A := Bs.arrKey
  have hsz : ∃ m, Try.prog.types.size = m + 1 := ⟨Try.prog.types.size - 1, (Nat.succ_pred_eq_of_pos (Nat.lt_of_le_of_lt (Nat.zero_le _) Bs.rowSet)).symm⟩
  have hkt := A.keyType hsz
  have he := Try.underlying23
  have w0 := Bs.wf_word f 0; have w1 := Bs.wf_word f 1; have w2 := Bs.wf_word f 2; have w3 := Bs.wf_word f 3
  obtain ⟨m, hm⟩ := hsz
  unfold keyOf
  simp only [A.hu]
  rw [if_pos (by simp [hkt, Value.formed, A.hu, A.size]), hm]
  unfold Program.keyLits
  simp only [A.hu, Value.cells]
  rw [if_pos (by rw [A.size]; rfl), show List.range 4 = [0, 1, 2, 3] from rfl, List.mapM_cons, List.mapM_cons, List.mapM_cons, List.mapM_cons, List.mapM_nil]
  simp [A.one, Program.keyLits, he, w0, w1, w2, w3, Bs.key]
set_option maxRecDepth 100000 in
theorem Bs.key_is (f : Nat → Bool) : WideAt.IsKeyLit (Bs.key f) := Bs.keyed.key (Bs.keyOf_val f)
set_option maxRecDepth 100000 in
theorem Bs.key_inj {f g : Nat → Bool} (h : Bs.key f = Bs.key g) : Bs.val f = Bs.val g := Bs.keyed.inj (Bs.keyOf_val f) (by rw [h]; exact Bs.keyOf_val g)
set_option maxRecDepth 100000 in
theorem Bs.key_congr {f g : Nat → Bool} (h : Bs.val f = Bs.val g) : Bs.key f = Bs.key g := by
  have a := Bs.keyOf_val f
  have b := Bs.keyOf_val g
  unfold Bs.val at h
  rw [h, b] at a
  exact (Option.some.inj a).symm
def Bs.same (f g : Nat → Bool) : Bool := (List.range 256).all fun c => f c == g c
end Go.Proofs.Ythapedadnbkgnaa
namespace Go.Proofs.Ythapedadnbkgnaa
set_option linter.unusedVariables false
set_option linter.unusedSimpArgs false
open Go.RowKit
theorem Rx.Is.dr {w : World} {x : Rx} {v : Value} (h : Rx.Is w x v) : Rx.Is w.drew x v := h.up (Below.refl _ _).drew
theorem Rx.In.open {w : World} {x : Rx} {p : Addr} (h : Rx.In w x p) : ∃ k f a n cap, Rx.Cell w p k f a n cap ∧ Rx.Is w x (Rx.hdr k f a n cap) := by
  obtain ⟨k', f', l'⟩ := x
  simp only [Rx.In] at h
  obtain ⟨h1, a', cap', h2, h3⟩ := h
  exact ⟨k', f', a', _, cap', h2, h1, a', cap', rfl, h3⟩
open Go.RowKit
def Rx.Sg (w : World) (a : Option Addr) (L : List Int) : Prop := ∀ i (h : i < L.length), ∃ x, a = some x ∧ w.cell? (x.add i) = some (.int .i64 L[i])
theorem Rx.Sg.up {w w' : World} {a : Option Addr} {L : List Int} (h : Rx.Sg w a L) (hb : Below w.heap.size w w') : Rx.Sg w' a L := fun i hi => by
  obtain ⟨x, e, h⟩ := h i hi
  exact ⟨x, e, Bs.cell_up hb h⟩
structure Rx.Rd (w : World) (r : Nat) (a : Option Addr) (L : List Int) (cap : Nat) (i : Int) (bad big : Bool) : Prop where
  c0 : w.cell? ⟨r, 0, none⟩ = some (.slice a L.length cap)
  c1 : w.cell? ⟨r, 1, none⟩ = some (.int .i64 i)
  c2 : w.cell? ⟨r, 2, none⟩ = some (.bool bad)
  c3 : w.cell? ⟨r, 3, none⟩ = some (.bool big)
  z1 : w.frozen? ⟨r, 1, none⟩ = false
  z2 : w.frozen? ⟨r, 2, none⟩ = false
  z3 : w.frozen? ⟨r, 3, none⟩ = false
  sg : Rx.Sg w a L
  ne : ∀ x, a = some x → x.block ≠ r
  nn : ∀ c ∈ L, 0 ≤ c
  ln : L.length ≤ 1000
  only : ∀ j v, w.cell? ⟨r, j, none⟩ = some v → j < 4
theorem Rx.Rd.lt {w : World} {r : Nat} {a : Option Addr} {L : List Int} {cap : Nat} {i : Int} {bad big : Bool} (h : Rx.Rd w r a L cap i bad big) : r < w.heap.size := World.block_lt_of_cell? w _ h.c0
theorem Rx.Rd.up {w w' : World} {r : Nat} {a : Option Addr} {L : List Int} {cap : Nat} {i : Int} {bad big : Bool} (h : Rx.Rd w r a L cap i bad big) (hb : Below w.heap.size w w') : Rx.Rd w' r a L cap i bad big := by
  have hl := h.lt
  exact ⟨Bs.cell_up hb h.c0, Bs.cell_up hb h.c1, Bs.cell_up hb h.c2, Bs.cell_up hb h.c3, by rw [hb.frozen hl]; exact h.z1, by rw [hb.frozen hl]; exact h.z2, by rw [hb.frozen hl]; exact h.z3, h.sg.up hb, h.ne, h.nn, h.ln, fun j v hv => h.only j v (by rw [← hb.cell (p := ⟨r, j, none⟩) hl]; exact hv)⟩
theorem Rx.Sg.set {w : World} {a : Option Addr} {L : List Int} {r j : Nat} {v : Value} (h : Rx.Sg w a L) (hn : ∀ x, a = some x → x.block ≠ r) : Rx.Sg (w.setCell ⟨r, j, none⟩ v) a L := fun i hi => by
  obtain ⟨x, e, h⟩ := h i hi
  have e2 : (x.add i).block = x.block := by
    simp only [Addr.add]
    split <;> rfl
  exact ⟨x, e, Bs.cell_set h (fun e' => hn x e (e2.symm.trans e'.symm))⟩
def Rx.St (w : World) (r : Nat) (a : Option Addr) (L : List Int) (cap : Nat) (t : Option (List Int)) (big : Bool) : Prop :=
  match t with
  | none => ∃ i, Rx.Rd w r a L cap i true big
  | some t => ∃ k : Nat, k ≤ L.length ∧ t = L.drop k ∧ Rx.Rd w r a L cap k false big
theorem Rx.St.up {w w' : World} {r : Nat} {a : Option Addr} {L : List Int} {cap : Nat} {t : Option (List Int)} {big : Bool} (h : Rx.St w r a L cap t big) (hb : Below w.heap.size w w') : Rx.St w' r a L cap t big := by
  cases t with
  | none => obtain ⟨i, h⟩ := h; exact ⟨i, h.up hb⟩
  | some t => obtain ⟨k, h1, h2, h⟩ := h; exact ⟨k, h1, h2, h.up hb⟩
theorem Rx.below_drewN (w : World) : ∀ n, Below w.heap.size w (w.drewN n) := fun n => by
  induction n with
  | zero => exact Below.refl _ _
  | succ n ih => exact ih.drew
theorem Rx.see_below {w w' : World} {n : Nat} (h : w' = w.drewN n) : Below w.heap.size w w' := by
  rw [h]
  exact Rx.below_drewN w n
theorem Rx.grown_of {w w' : World} (c : Nat) (h : Below w.heap.size w w') : w.grownBy w' (some c) := ⟨h.os, h.tape, h.output, h.size, fun k hk _ => h.block k hk⟩
theorem Rx.grown_set {w v : World} {c : Nat} (h : w.grownBy v (some c)) (j : Nat) (u : Value) : w.grownBy (v.setCell ⟨c, j, none⟩ u) (some c) :=
  ⟨h.os, h.tape, h.output, by rw [show (v.setCell ⟨c, j, none⟩ u).heap.size = v.heap.size by simp [go_sem]]; exact h.size, fun k hk hn => by rw [Below.heap_setCell _ _ _ _ (fun e => hn (by rw [e]))]; exact h.block k hk hn⟩
end Go.Proofs.Ythapedadnbkgnaa
namespace Go.Proofs.Ythapedadnbkgnaa
set_option linter.unusedVariables false
set_option linter.unusedSimpArgs false
open Go.RowKit
theorem Bs.grown_of_below {w w' : World} (h : Below w.heap.size w w') : w.grownBy w' none := ⟨h.os, h.tape, h.output, h.size, fun k hk _ => h.block k hk⟩
theorem Bs.row_up {w w' : World} {base : Nat} {e : TypeId} {size : Nat} {v : Value} {n : Nat} {xs : List Value} (h : w.ownsRow base e size v n xs) (hb : Below w.heap.size w w') : w'.ownsRow base e size v n xs := by
  refine h.kept (Bs.grown_of_below hb) ?_
  cases v.ownBlock
  · exact .inl rfl
  · exact .inr (by simp)
end Go.Proofs.Ythapedadnbkgnaa
