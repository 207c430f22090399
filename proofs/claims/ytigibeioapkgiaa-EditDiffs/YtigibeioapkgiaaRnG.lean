/- What the document's 'Whole' answers, and that the examples hold, walked. -/
import Derived.Test.YtigibeioapkgiaaRnF
namespace Go.Proofs.Ytigibeioapkgiaa
set_option linter.unusedVariables false
set_option linter.unusedSimpArgs false
open Go.RowKit
set_option maxRecDepth 100000 in
set_option maxHeartbeats 400000 in
theorem refWhole_any (s : ByteArray) (w : World) (hs : s.size ≤ maxLen) : Calls Try.prog 17 #[.string s] w fun e w' => e = .returned (.bool (Rn.wholeL s.data.toList)) ∧ Below w.heap.size w w' := by
  unfold maxLen at hs
  go_enter Try.func17, Try.ntmps17
  go_wp2
  go_loopg [0] (s.size) (fun g v wr => ∃ t : ByteArray, v = .string t ∧ t.size = g ∧ t.size ≤ s.size ∧ Below w.heap.size w wr ∧ Hid (Rn.wholeL s.data.toList = Rn.wholeL t.data.toList))
  case atStart => exact ⟨s, rfl, rfl, Nat.le_refl _, Below.refl _ _, rfl⟩
  case round =>
    obtain ⟨t, rfl, hg, hts, hb, HW⟩ := hrel
    have hk0 := Rn.firstL_bd t.data.toList
    rw [Rn.len_data] at hk0
    obtain ⟨k, hk⟩ : ∃ k : Nat, (Rn.firstL t.data.toList).2 = k := ⟨_, (Int.toNat_of_nonneg hk0.1).symm⟩
    rw [hk] at hk0
    have hwe := Rn.wholeL_eq t.data.toList
    rw [hk] at hwe
    have HWE := Lib.hid hwe; clear hwe
    have HG := Lib.hid hg; clear hg
    have hc := fun w' => (refFirst_any t w' (by unfold maxLen; omega))
    rw [hk] at hc
    have HC := Lib.hid hc; clear hc
    clear hk
    by_cases h0 : 0 < t.size
    · by_cases hk1 : k = 0
      · subst hk1
        go_wp2_with (go_at_call 37; refine (HC.out _).mono ?_; rintro e w' ⟨rfl, hb2⟩)
        go_ret
        refine ⟨ret_bool ?_, hb.trans (hb2.mono hb.size)⟩
        rw [HW.out, HWE.out, if_pos (by simp)]
        symm; rw [← Bool.not_eq_true, List.isEmpty_iff_length_eq_zero, Rn.len_data]; omega
      · have hk2 : ((k : Int) == 0) = false := beq_eq_false_iff_ne.2 (by omega)
        go_wp2_with (go_at_call 37; refine (HC.out _).mono ?_; rintro e w' ⟨rfl, hb2⟩)
        go_roundg (gk - k)
        case measure => have := HG.out; omega
        case rel =>
          refine ⟨t.extract k t.size, rfl, by have := HG.out; simp; omega, by simp; omega, hb.trans (hb2.mono hb.size), ?_⟩
          show _ = _
          rw [HW.out, HWE.out, if_neg (by omega), tail_data]; simp
    · go_wp2
      go_ret
      refine ⟨ret_bool ?_, hb⟩
      have : t.data.toList = [] := List.eq_nil_of_length_eq_zero (by rw [Rn.len_data]; omega)
      rw [HW.out, this]; rfl
theorem bthen {a b c : World} (h : Below a.heap.size a b) (h2 : Below b.heap.size b c) : Below a.heap.size a c := h.trans (h2.mono h.size)
theorem first_ex (w : World) : Calls Try.prog 72 #[.string ⟨#[195, 169]⟩] w fun e w' => e = .returned (.tuple #[.int .i64 233, .int .i64 2]) ∧ ∃ n, w' = w.drewN n := by
  have h := first_any ⟨#[195, 169]⟩ w (by decide)
  have e : Rn.firstL (ByteArray.mk #[195, 169]).data.toList = (233, 2) := by decide
  rw [e] at h; exact h
theorem whole_ex (w : World) : Calls Try.prog 48 #[.string ⟨#[195, 169]⟩] w fun e w' => e = .returned (.bool true) ∧ Below w.heap.size w w' := by
  have h := whole_any ⟨#[195, 169]⟩ w (by decide)
  have e : Rn.wholeL (ByteArray.mk #[195, 169]).data.toList = true := by decide
  rw [e] at h; exact h
theorem edge_ex (w : World) : Calls Try.prog 55 #[.string ⟨#[195, 169]⟩, .int .i64 1] w fun e w' => e = .returned (.bool false) ∧ w = w' := by
  have h := edge_any ⟨#[195, 169]⟩ 1 w (by decide)
  have e : Rn.edgeB (ByteArray.mk #[195, 169]) 1 = false := by decide
  rw [e] at h; exact h
theorem count_ex (w : World) : Calls Try.prog 69 #[.string ⟨#[97, 195, 169]⟩] w fun e w' => e = .returned (.int .i64 2) ∧ w = w' := by
  have h := count_any ⟨#[97, 195, 169]⟩ w (by decide)
  have e : Rn.cnt (ByteArray.mk #[97, 195, 169]).data.toList = 2 := by decide
  rw [e] at h; exact h
theorem whole_ex2 (w : World) : Calls Try.prog 48 #[.string ⟨#[237, 160, 128]⟩] w fun e w' => e = .returned (.bool false) ∧ Below w.heap.size w w' := by
  have h := whole_any ⟨#[237, 160, 128]⟩ w (by decide)
  have e : Rn.wholeL (ByteArray.mk #[237, 160, 128]).data.toList = false := by decide
  rw [e] at h; exact h
end Go.Proofs.Ytigibeioapkgiaa
