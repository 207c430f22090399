/- What TrailingZeros64, First and the document's Put answer, walked. -/
import Derived.Test.YtaaialodlibhaaaDoorBsQ
import Derived.Test.YtaaialodlibhaaaDoorBsU
namespace Go.Proofs.YtaaialodlibhaaaDoor
set_option linter.unusedVariables false
set_option linter.unusedSimpArgs false
open Go.RowKit
/-- the library's table in its variable -/
def Bs.Tab (w : World) : Prop := ∀ j, j < 64 → w.cell? ⟨0, j, none⟩ = some (.int .u8 (Lib.deBruijn64tab.getD j 0 : Nat))
theorem Bs.Tab.up {w w' : World} (h : Bs.Tab w) (hb : Below w.heap.size w w') : Bs.Tab w' := fun j hj => Bs.cell_up hb (h j hj)
theorem Bs.tz_key (x a : Nat) (hx : x < 18446744073709551616) (h0 : x ≠ 0) (hlow : x &&& (18446744073709551616 - x) = a) :
    IntKind.u64.wrap (bits .and .u64 (x : Int) (IntKind.u64.wrap (-(x : Int))) * 285870213051353865) / 288230376151711744 = ((a * 285870213051353865 % 18446744073709551616 / 288230376151711744 : Nat) : Int) := by
  have e1 : IntKind.u64.wrap (-(x : Int)) = ((18446744073709551616 - x : Nat) : Int) := by rw [IntKind.wrap_u64]; omega
  rw [e1, u64_and_nat x _ hx (by omega), hlow, IntKind.wrap_u64]
  omega
set_option maxRecDepth 100000 in
set_option maxHeartbeats 400000 in
theorem tz_core (x k idx : Nat) (w : World) (hx0 : ((x : Int) == 0) = false)
    (key : IntKind.u64.wrap (bits .and .u64 (x : Int) (IntKind.u64.wrap (-(x : Int))) * 285870213051353865) / 288230376151711744 = (idx : Int))
    (hi : idx < 64) (hk : k < 64) (hcell : w.cell? ⟨0, idx, none⟩ = some (.int .u8 k)) :
    Calls Tryd.prog 19 #[.int .u64 x] w fun e w' => e = .returned (.int .i64 k) ∧ w = w' := by
  go_enter Tryd.func19, Tryd.ntmps19
  go_wp2
  go_ret
  exact ⟨rfl, rfl⟩
theorem tzB_any (x : Nat) (h0 : x ≠ 0) (hx : x < 18446744073709551616) (w : World) (hT : Bs.Tab w) : Calls Tryd.prog 19 #[.int .u64 x] w fun e w' => e = .returned (.int .i64 (Lib.ctz 64 x)) ∧ w = w' := by
  obtain ⟨hlow, hk⟩ := Lib.lowest_bit 64 x h0 hx
  obtain ⟨hi, htab⟩ := Lib.deBruijn64_at _ hk
  have hcell := hT _ hi
  rw [htab] at hcell
  exact tz_core x _ _ w (by simp; omega) (Bs.tz_key x _ hx h0 hlow) hi hk hcell
set_option maxRecDepth 100000 in
set_option maxHeartbeats 400000 in
theorem first_0 (f : Nat → Bool) (k : Nat) (w : World) (hT : Bs.Tab w)  (hn : Bs.word f 0 ≠ 0) (hk : Lib.ctz 64 (Bs.word f 0) = k) (hk64 : k < 64) :
    Calls Tryd.prog 8 #[Bs.val f] w fun e w' => e = .returned (.tuple #[.int .u8 ((64 * 0 + k : Nat) : Int), .bool true]) ∧ Below w.heap.size w w' := by
  have i0 := Bs.idx0 (.int .u64 ↑(Bs.word f 0)) (.int .u64 ↑(Bs.word f 1)) (.int .u64 ↑(Bs.word f 2)) (.int .u64 ↑(Bs.word f 3))
  have i1 := Bs.idx1 (.int .u64 ↑(Bs.word f 0)) (.int .u64 ↑(Bs.word f 1)) (.int .u64 ↑(Bs.word f 2)) (.int .u64 ↑(Bs.word f 3))
  have i2 := Bs.idx2 (.int .u64 ↑(Bs.word f 0)) (.int .u64 ↑(Bs.word f 1)) (.int .u64 ↑(Bs.word f 2)) (.int .u64 ↑(Bs.word f 3))
  have i3 := Bs.idx3 (.int .u64 ↑(Bs.word f 0)) (.int .u64 ↑(Bs.word f 1)) (.int .u64 ↑(Bs.word f 2)) (.int .u64 ↑(Bs.word f 3))
  have t0 : ((Bs.word f 0 : Int) != 0) = true := by simp; omega
  have HT := hT.up (Bs.below1 w (.cells #[.int .u64 ↑(Bs.word f 0), .int .u64 ↑(Bs.word f 1), .int .u64 ↑(Bs.word f 2), .int .u64 ↑(Bs.word f 3)] 26))
  have C := tzB_any (Bs.word f 0) hn (Bs.word_lt f 0) _ HT
  rw [hk] at C
  have HC := Lib.hid C
  clear C hT HT hk hn 
  unfold Bs.val
  go_enter Tryd.func8, Tryd.ntmps8
  go_wp2_with fail
  refine wp_loop_rounds 1 ?_
  rw [rounds_succ]
  go_wp2_with (go_at_call 19; refine HC.out.mono ?_; rintro e w' ⟨rfl, rfl⟩)
  go_ret2
  exact ⟨by simp, (Below.refl _ _).alloc (Nat.le_refl _) _⟩
set_option maxRecDepth 100000 in
set_option maxHeartbeats 400000 in
theorem first_1 (f : Nat → Bool) (k : Nat) (w : World) (hT : Bs.Tab w) (z0 : Bs.word f 0 = 0) (hn : Bs.word f 1 ≠ 0) (hk : Lib.ctz 64 (Bs.word f 1) = k) (hk64 : k < 64) :
    Calls Tryd.prog 8 #[Bs.val f] w fun e w' => e = .returned (.tuple #[.int .u8 ((64 * 1 + k : Nat) : Int), .bool true]) ∧ Below w.heap.size w w' := by
  have i0 := Bs.idx0 (.int .u64 ↑(Bs.word f 0)) (.int .u64 ↑(Bs.word f 1)) (.int .u64 ↑(Bs.word f 2)) (.int .u64 ↑(Bs.word f 3))
  have i1 := Bs.idx1 (.int .u64 ↑(Bs.word f 0)) (.int .u64 ↑(Bs.word f 1)) (.int .u64 ↑(Bs.word f 2)) (.int .u64 ↑(Bs.word f 3))
  have i2 := Bs.idx2 (.int .u64 ↑(Bs.word f 0)) (.int .u64 ↑(Bs.word f 1)) (.int .u64 ↑(Bs.word f 2)) (.int .u64 ↑(Bs.word f 3))
  have i3 := Bs.idx3 (.int .u64 ↑(Bs.word f 0)) (.int .u64 ↑(Bs.word f 1)) (.int .u64 ↑(Bs.word f 2)) (.int .u64 ↑(Bs.word f 3))
  have t0 : ((Bs.word f 0 : Int) != 0) = false := by rw [z0]; rfl
  have t1 : ((Bs.word f 1 : Int) != 0) = true := by simp; omega
  have HT := hT.up (Bs.below1 w (.cells #[.int .u64 ↑(Bs.word f 0), .int .u64 ↑(Bs.word f 1), .int .u64 ↑(Bs.word f 2), .int .u64 ↑(Bs.word f 3)] 26))
  have C := tzB_any (Bs.word f 1) hn (Bs.word_lt f 1) _ HT
  rw [hk] at C
  have HC := Lib.hid C
  clear C hT HT hk hn z0
  unfold Bs.val
  go_enter Tryd.func8, Tryd.ntmps8
  go_wp2_with fail
  refine wp_loop_rounds 2 ?_
  rw [rounds_succ]
  go_wp2_with fail
  rw [rounds_succ]
  go_wp2_with (go_at_call 19; refine HC.out.mono ?_; rintro e w' ⟨rfl, rfl⟩)
  go_ret2
  exact ⟨by simp, (Below.refl _ _).alloc (Nat.le_refl _) _⟩
set_option maxRecDepth 100000 in
set_option maxHeartbeats 400000 in
theorem first_2 (f : Nat → Bool) (k : Nat) (w : World) (hT : Bs.Tab w) (z0 : Bs.word f 0 = 0) (z1 : Bs.word f 1 = 0) (hn : Bs.word f 2 ≠ 0) (hk : Lib.ctz 64 (Bs.word f 2) = k) (hk64 : k < 64) :
    Calls Tryd.prog 8 #[Bs.val f] w fun e w' => e = .returned (.tuple #[.int .u8 ((64 * 2 + k : Nat) : Int), .bool true]) ∧ Below w.heap.size w w' := by
  have i0 := Bs.idx0 (.int .u64 ↑(Bs.word f 0)) (.int .u64 ↑(Bs.word f 1)) (.int .u64 ↑(Bs.word f 2)) (.int .u64 ↑(Bs.word f 3))
  have i1 := Bs.idx1 (.int .u64 ↑(Bs.word f 0)) (.int .u64 ↑(Bs.word f 1)) (.int .u64 ↑(Bs.word f 2)) (.int .u64 ↑(Bs.word f 3))
  have i2 := Bs.idx2 (.int .u64 ↑(Bs.word f 0)) (.int .u64 ↑(Bs.word f 1)) (.int .u64 ↑(Bs.word f 2)) (.int .u64 ↑(Bs.word f 3))
  have i3 := Bs.idx3 (.int .u64 ↑(Bs.word f 0)) (.int .u64 ↑(Bs.word f 1)) (.int .u64 ↑(Bs.word f 2)) (.int .u64 ↑(Bs.word f 3))
  have t0 : ((Bs.word f 0 : Int) != 0) = false := by rw [z0]; rfl
  have t1 : ((Bs.word f 1 : Int) != 0) = false := by rw [z1]; rfl
  have t2 : ((Bs.word f 2 : Int) != 0) = true := by simp; omega
  have HT := hT.up (Bs.below1 w (.cells #[.int .u64 ↑(Bs.word f 0), .int .u64 ↑(Bs.word f 1), .int .u64 ↑(Bs.word f 2), .int .u64 ↑(Bs.word f 3)] 26))
  have C := tzB_any (Bs.word f 2) hn (Bs.word_lt f 2) _ HT
  rw [hk] at C
  have HC := Lib.hid C
  clear C hT HT hk hn z0 z1
  unfold Bs.val
  go_enter Tryd.func8, Tryd.ntmps8
  go_wp2_with fail
  refine wp_loop_rounds 3 ?_
  rw [rounds_succ]
  go_wp2_with fail
  rw [rounds_succ]
  go_wp2_with fail
  rw [rounds_succ]
  go_wp2_with (go_at_call 19; refine HC.out.mono ?_; rintro e w' ⟨rfl, rfl⟩)
  go_ret2
  exact ⟨by simp, (Below.refl _ _).alloc (Nat.le_refl _) _⟩
set_option maxRecDepth 100000 in
set_option maxHeartbeats 400000 in
theorem first_3 (f : Nat → Bool) (k : Nat) (w : World) (hT : Bs.Tab w) (z0 : Bs.word f 0 = 0) (z1 : Bs.word f 1 = 0) (z2 : Bs.word f 2 = 0) (hn : Bs.word f 3 ≠ 0) (hk : Lib.ctz 64 (Bs.word f 3) = k) (hk64 : k < 64) :
    Calls Tryd.prog 8 #[Bs.val f] w fun e w' => e = .returned (.tuple #[.int .u8 ((64 * 3 + k : Nat) : Int), .bool true]) ∧ Below w.heap.size w w' := by
  have i0 := Bs.idx0 (.int .u64 ↑(Bs.word f 0)) (.int .u64 ↑(Bs.word f 1)) (.int .u64 ↑(Bs.word f 2)) (.int .u64 ↑(Bs.word f 3))
  have i1 := Bs.idx1 (.int .u64 ↑(Bs.word f 0)) (.int .u64 ↑(Bs.word f 1)) (.int .u64 ↑(Bs.word f 2)) (.int .u64 ↑(Bs.word f 3))
  have i2 := Bs.idx2 (.int .u64 ↑(Bs.word f 0)) (.int .u64 ↑(Bs.word f 1)) (.int .u64 ↑(Bs.word f 2)) (.int .u64 ↑(Bs.word f 3))
  have i3 := Bs.idx3 (.int .u64 ↑(Bs.word f 0)) (.int .u64 ↑(Bs.word f 1)) (.int .u64 ↑(Bs.word f 2)) (.int .u64 ↑(Bs.word f 3))
  have t0 : ((Bs.word f 0 : Int) != 0) = false := by rw [z0]; rfl
  have t1 : ((Bs.word f 1 : Int) != 0) = false := by rw [z1]; rfl
  have t2 : ((Bs.word f 2 : Int) != 0) = false := by rw [z2]; rfl
  have t3 : ((Bs.word f 3 : Int) != 0) = true := by simp; omega
  have HT := hT.up (Bs.below1 w (.cells #[.int .u64 ↑(Bs.word f 0), .int .u64 ↑(Bs.word f 1), .int .u64 ↑(Bs.word f 2), .int .u64 ↑(Bs.word f 3)] 26))
  have C := tzB_any (Bs.word f 3) hn (Bs.word_lt f 3) _ HT
  rw [hk] at C
  have HC := Lib.hid C
  clear C hT HT hk hn z0 z1 z2
  unfold Bs.val
  go_enter Tryd.func8, Tryd.ntmps8
  go_wp2_with fail
  refine wp_loop_rounds 4 ?_
  rw [rounds_succ]
  go_wp2_with fail
  rw [rounds_succ]
  go_wp2_with fail
  rw [rounds_succ]
  go_wp2_with fail
  rw [rounds_succ]
  go_wp2_with (go_at_call 19; refine HC.out.mono ?_; rintro e w' ⟨rfl, rfl⟩)
  go_ret2
  exact ⟨by simp, (Below.refl _ _).alloc (Nat.le_refl _) _⟩
set_option maxRecDepth 100000 in
set_option maxHeartbeats 400000 in
theorem first_none (f : Nat → Bool) (w : World) (z0 : Bs.word f 0 = 0) (z1 : Bs.word f 1 = 0) (z2 : Bs.word f 2 = 0) (z3 : Bs.word f 3 = 0) :
    Calls Tryd.prog 8 #[Bs.val f] w fun e w' => e = .returned (.tuple #[.int .u8 0, .bool false]) ∧ Below w.heap.size w w' := by
  have i0 := Bs.idx0 (.int .u64 ↑(Bs.word f 0)) (.int .u64 ↑(Bs.word f 1)) (.int .u64 ↑(Bs.word f 2)) (.int .u64 ↑(Bs.word f 3))
  have i1 := Bs.idx1 (.int .u64 ↑(Bs.word f 0)) (.int .u64 ↑(Bs.word f 1)) (.int .u64 ↑(Bs.word f 2)) (.int .u64 ↑(Bs.word f 3))
  have i2 := Bs.idx2 (.int .u64 ↑(Bs.word f 0)) (.int .u64 ↑(Bs.word f 1)) (.int .u64 ↑(Bs.word f 2)) (.int .u64 ↑(Bs.word f 3))
  have i3 := Bs.idx3 (.int .u64 ↑(Bs.word f 0)) (.int .u64 ↑(Bs.word f 1)) (.int .u64 ↑(Bs.word f 2)) (.int .u64 ↑(Bs.word f 3))
  have t0 : ((Bs.word f 0 : Int) != 0) = false := by rw [z0]; rfl
  have t1 : ((Bs.word f 1 : Int) != 0) = false := by rw [z1]; rfl
  have t2 : ((Bs.word f 2 : Int) != 0) = false := by rw [z2]; rfl
  have t3 : ((Bs.word f 3 : Int) != 0) = false := by rw [z3]; rfl
  clear z0 z1 z2 z3
  unfold Bs.val
  go_enter Tryd.func8, Tryd.ntmps8
  go_wp2_with fail
  refine wp_loop_rounds 5 ?_
  rw [rounds_succ]
  go_wp2_with fail
  rw [rounds_succ]
  go_wp2_with fail
  rw [rounds_succ]
  go_wp2_with fail
  rw [rounds_succ]
  go_wp2_with fail
  rw [rounds_succ]
  go_wp2_with fail
  go_ret2
  exact ⟨rfl, (Below.refl _ _).alloc (Nat.le_refl _) _⟩
/-- what First answers -/
def Bs.FPost (w : World) (f : Nat → Bool) (e : Ending) (w' : World) : Prop :=
  ((∃ c r, Bs.lst f 256 = c :: r ∧ c < 256 ∧ e = .returned (.tuple #[.int .u8 (c : Nat), .bool true])) ∨ (Bs.lst f 256 = [] ∧ e = .returned (.tuple #[.int .u8 0, .bool false]))) ∧ Below w.heap.size w w'
theorem firstB_any (f : Nat → Bool) (w : World) (hT : Bs.Tab w) : Calls Tryd.prog 8 #[Bs.val f] w (Bs.FPost w f) := by
  by_cases z0 : Bs.word f 0 = 0
  · by_cases z1 : Bs.word f 1 = 0
    · by_cases z2 : Bs.word f 2 = 0
      · by_cases z3 : Bs.word f 3 = 0
        · refine (first_none f w z0 z1 z2 z3).mono ?_
          rintro e w' ⟨rfl, hb⟩
          refine ⟨.inr ⟨Bs.lst_none fun c hc => ?_, rfl⟩, hb⟩
          by_cases c0 : c < 64
          · exact Bs.word_zero z0 c (by omega) (by omega)
          by_cases c1 : c < 128
          · exact Bs.word_zero z1 c (by omega) (by omega)
          by_cases c2 : c < 192
          · exact Bs.word_zero z2 c (by omega) (by omega)
          · exact Bs.word_zero z3 c (by omega) (by omega)
        · obtain ⟨k, hk, hk64, hf, hl⟩ := Bs.word_some z3
          refine (first_3 f k w hT z0 z1 z2 z3 hk hk64).mono ?_
          rintro e w' ⟨rfl, hb⟩
          obtain ⟨r, hr⟩ := Bs.lst_first (m := 256) (fun c hc => by
            by_cases c0 : c < 64
            · exact Bs.word_zero z0 c (by omega) (by omega)
            by_cases c1 : c < 128
            · exact Bs.word_zero z1 c (by omega) (by omega)
            by_cases c2 : c < 192
            · exact Bs.word_zero z2 c (by omega) (by omega)
            · exact hl c (by omega) (by omega)) hf (by omega)
          exact ⟨.inl ⟨_, r, hr, by omega, rfl⟩, hb⟩
      · obtain ⟨k, hk, hk64, hf, hl⟩ := Bs.word_some z2
        refine (first_2 f k w hT z0 z1 z2 hk hk64).mono ?_
        rintro e w' ⟨rfl, hb⟩
        obtain ⟨r, hr⟩ := Bs.lst_first (m := 256) (fun c hc => by
          by_cases c0 : c < 64
          · exact Bs.word_zero z0 c (by omega) (by omega)
          by_cases c1 : c < 128
          · exact Bs.word_zero z1 c (by omega) (by omega)
          · exact hl c (by omega) (by omega)) hf (by omega)
        exact ⟨.inl ⟨_, r, hr, by omega, rfl⟩, hb⟩
    · obtain ⟨k, hk, hk64, hf, hl⟩ := Bs.word_some z1
      refine (first_1 f k w hT z0 z1 hk hk64).mono ?_
      rintro e w' ⟨rfl, hb⟩
      obtain ⟨r, hr⟩ := Bs.lst_first (m := 256) (fun c hc => by
        by_cases c0 : c < 64
        · exact Bs.word_zero z0 c (by omega) (by omega)
        · exact hl c (by omega) (by omega)) hf (by omega)
      exact ⟨.inl ⟨_, r, hr, by omega, rfl⟩, hb⟩
  · obtain ⟨k, hk, hk64, hf, hl⟩ := Bs.word_some z0
    refine (first_0 f k w hT z0 hk hk64).mono ?_
    rintro e w' ⟨rfl, hb⟩
    obtain ⟨r, hr⟩ := Bs.lst_first (m := 256) (fun c hc => hl c (by omega) (by omega)) hf (by omega)
    exact ⟨.inl ⟨_, r, hr, by omega, rfl⟩, hb⟩
end Go.Proofs.YtaaialodlibhaaaDoor
