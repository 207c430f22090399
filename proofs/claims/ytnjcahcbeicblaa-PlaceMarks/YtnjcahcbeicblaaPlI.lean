/- The laws PlaceMarks and PlaceLines, walked. -/
import Derived.Test.YtnjcahcbeicblaaPlH
namespace Go.Proofs.Ytnjcahcbeicblaa
set_option linter.unusedVariables false
set_option linter.unusedSimpArgs false
open Go.RowKit
open Rp (Tr)
theorem linesP_s (p : Option Addr) (s : ByteArray) (w : World) (hp : Rp.Rep w p s.data.toList) (hs : s.size ≤ 1000000) : Calls Try.prog 21 #[.agg #[.pointer p]] w (Rp.IPost w ((Rp.lns s.data.toList : Int) + 1)) := by
  have h := linesP_any p s.data.toList w hp (by rw [Rn.len_data0]; exact hs)
  rw [Int.add_comm] at h; exact h
set_option maxRecDepth 100000 in
set_option maxHeartbeats 2000000 in
theorem marksLaw_any (s : ByteArray) (i : Int) (w : World) (hs : s.size ≤ maxLen) : Calls Try.prog 4 #[.string s, .int .i64 i] w (Rp.BPost w true) := by
  by_cases h1 : 500 < s.size
  · have d1 : decide ((500 : Int) < s.size) = true := by simp; omega
    go_enter Try.func4, Try.ntmps4
    go_wp2_with (go_at_call 19; refine (alive3_any _).mono ?_; rintro e w1 ⟨rfl, hb1⟩)
    go_ret
    exact ⟨rfl, hb1⟩
  have d1 : decide ((500 : Int) < s.size) = false := by simp; omega
  have hs1 : s.size ≤ 1000000 := by omega
  by_cases hr : i < 0 ∨ (s.size : Int) < i
  · have hor : (decide (i < 0) = true) ∨ (decide (i < 0) = false ∧ decide ((s.size : Int) < i) = true) := by
      by_cases h2 : i < 0
      · exact .inl (by simp [h2])
      · exact .inr ⟨by simp; omega, by simp; omega⟩
    rcases hor with d2 | ⟨d2, d3⟩
    all_goals
      go_enter Try.func4, Try.ntmps4
      go_wp2_with (go_at_call 19; refine (alive3_any _).mono ?_; rintro e w1 ⟨rfl, hb1⟩)
      refine (of_yes s w1 (by omega)).mono ?_
      rintro e w2 ⟨r, rfl, hrp, hb2⟩
      have V := Rp.var_new hrp
      have be := (Rp.below_up hb1 hb2).alloc (Rp.below_up hb1 hb2).size (.cells #[.pointer r] 26)
      clear hb1 hb2 hrp
      go_wp2_with fail
      generalize w2.alloc (.cells #[.pointer r] 26) = u2 at *
      generalize w2.heap.size = N at *
      refine (mark_no r s.data.toList i _ V.rep (by rw [Rn.len_data0]; exact hr)).mono ?_
      rintro e w3 ⟨rfl, hb3⟩
      replace V := (V.up hb3).up (Rp.below_al w3 (.cells #[.int .i64 0, .int .i64 0] 46))
      have B := Pl.box2_new (v := w3) 0 0 46
      replace be := (Rp.below_up be hb3).alloc (Rp.below_up be hb3).size (.cells #[.int .i64 0, .int .i64 0] 46)
      have x0 := V.cell
      clear hb3
      go_wp2_with fail
      generalize w3.alloc (.cells #[.int .i64 0, .int .i64 0] 46) = u3 at *
      generalize w3.heap.size = M at *
      refine (linesP_s r s _ V.rep hs1).mono ?_
      rintro e w4 ⟨rfl, hb4⟩
      replace V := V.up hb4
      replace B := B.up hb4
      replace be := Rp.below_up be hb4
      clear hb4
      go_wp2_with fail
      refine (refLinesP_any s _ hs1).mono ?_
      rintro e w5 ⟨rfl, hb5⟩
      replace V := V.up hb5
      replace B := B.up hb5
      replace be := Rp.below_up be hb5
      replace x0 := V.cell
      clear hb5
      go_wp2_with fail
      refine (edgeP_any r s i _ V.rep hs1).mono ?_
      rintro e w6 ⟨rfl, hb6⟩
      replace B := B.up hb6
      replace be := Rp.below_up be hb6
      clear hb6 V x0
      have c0 := B.c0
      have c1 := B.c1
      go_wp2_with (go_at_call 24; refine (refEdge_any _ _ _ hs).mono ?_; rintro e w' ⟨rfl, rfl⟩)
      go_ret
      exact ⟨by first | rfl | simp, be⟩
  · obtain ⟨a, rfl⟩ := Int.eq_ofNat_of_zero_le (show 0 ≤ i by omega)
    have ha : a ≤ s.size := by omega
    have d2 : decide ((a : Int) < 0) = false := by simp
    have d3 : decide (s.size < a) = false := by simp; omega
    clear hr
    go_enter Try.func4, Try.ntmps4
    go_wp2_with (go_at_call 19; refine (alive3_any _).mono ?_; rintro e w1 ⟨rfl, hb1⟩)
    refine (of_yes s w1 (by omega)).mono ?_
    rintro e w2 ⟨r, rfl, hrp, hb2⟩
    have V := Rp.var_new hrp
    have be := (Rp.below_up hb1 hb2).alloc (Rp.below_up hb1 hb2).size (.cells #[.pointer r] 26)
    clear hb1 hb2 hrp
    go_wp2_with fail
    generalize w2.alloc (.cells #[.pointer r] 26) = u2 at *
    generalize w2.heap.size = N at *
    refine (mark_yes r s.data.toList a _ V.rep (by rw [Rn.len_data0]; exact hs1) (by rw [Rn.len_data0]; exact ha)).mono ?_
    have HM := Lib.hid (fun w' => refMark_any s a w' hs1 ha)
    generalize Rp.lns (s.data.toList.take a) = L at *
    generalize Pl.col (s.data.toList.take a) = C at *
    rintro e w3 ⟨rfl, hb3⟩
    replace V := (V.up hb3).up (Rp.below_al w3 (.cells #[.int .i64 L, .int .i64 C] 46))
    have B := Pl.box2_new (v := w3) L C 46
    replace be := (Rp.below_up be hb3).alloc (Rp.below_up be hb3).size (.cells #[.int .i64 L, .int .i64 C] 46)
    have x0 := V.cell
    clear hb3
    go_wp2_with fail
    generalize w3.alloc (.cells #[.int .i64 L, .int .i64 C] 46) = u3 at *
    generalize w3.heap.size = M at *
    refine (linesP_s r s _ V.rep hs1).mono ?_
    rintro e w4 ⟨rfl, hb4⟩
    replace V := V.up hb4
    replace B := B.up hb4
    replace be := Rp.below_up be hb4
    clear hb4
    go_wp2_with fail
    refine (refLinesP_any s _ hs1).mono ?_
    rintro e w5 ⟨rfl, hb5⟩
    replace V := V.up hb5
    replace B := B.up hb5
    replace be := Rp.below_up be hb5
    replace x0 := V.cell
    clear hb5
    go_wp2_with fail
    refine (edgeP_any r s a _ V.rep hs1).mono ?_
    rintro e w6 ⟨rfl, hb6⟩
    replace B := B.up hb6
    replace be := Rp.below_up be hb6
    clear hb6 V x0
    have c0 := B.c0
    have c1 := B.c1
    go_wp2_with (go_at_call 24; refine (refEdge_any _ _ _ hs).mono ?_; rintro e w' ⟨rfl, rfl⟩)
    clear B
    go_region_held3 (fun v => v.cell? ⟨M, 0, none⟩ = some (.int .i64 L) ∧ v.cell? ⟨M, 1, none⟩ = some (.int .i64 C) ∧ Below w.heap.size w v)
      (first
        | (refine ⟨?_, ?_, ?_⟩ <;> with_reducible (first | (refine Rp.cell_dr ?_; assumption) | (refine Rp.below_dr ?_; assumption)))
        | (go_split_ands; refine ⟨?_, ?_, ?_⟩ <;> with_reducible (first | (refine Rp.cell_up hb7 ?_; assumption) | (refine Rp.below_up ?_ hb7; assumption))))
      (first
        | (go_at_call 25; refine (HM.out _).mono ?_; rintro e w7 ⟨rfl, hb7⟩))
    all_goals
      go_wp2_with fail
      go_ret
      go_split_ands
      exact ⟨by first | rfl | simp, by assumption⟩
set_option maxRecDepth 100000 in
set_option maxHeartbeats 2000000 in
theorem linesLaw_any (s : ByteArray) (i : Int) (w : World) (hs : s.size ≤ maxLen) : Calls Try.prog 5 #[.string s, .int .i64 i] w (Rp.BPost w true) := by
  by_cases h1 : 300 < s.size
  · have d1 : decide ((300 : Int) < s.size) = true := by simp; omega
    go_enter Try.func5, Try.ntmps5
    go_wp2_with (go_at_call 19; refine (alive3_any _).mono ?_; rintro e w1 ⟨rfl, hb1⟩)
    go_ret
    exact ⟨rfl, hb1⟩
  have d1 : decide ((300 : Int) < s.size) = false := by simp; omega
  have hs1 : s.size ≤ 1000000 := by omega
  have hl1 : s.data.toList.length ≤ 1000000 := by rw [Rn.len_data0]; exact hs1
  by_cases hr : i < 0 ∨ (Rp.lns s.data.toList : Int) < i
  · have HR := Lib.hid hr; clear hr
    go_enter Try.func5, Try.ntmps5
    go_wp2_with (go_at_call 19; refine (alive3_any _).mono ?_; rintro e w1 ⟨rfl, hb1⟩)
    refine (of_yes s w1 (by omega)).mono ?_
    rintro e w2 ⟨r, rfl, hrp, hb2⟩
    have V := Rp.var_new hrp
    have be := (Rp.below_up hb1 hb2).alloc (Rp.below_up hb1 hb2).size (.cells #[.pointer r] 26)
    clear hb1 hb2 hrp
    go_wp2_with fail
    generalize w2.alloc (.cells #[.pointer r] 26) = u2 at *
    generalize w2.heap.size = N at *
    refine (span_no r s.data.toList i _ V.rep HR.out).mono ?_
    rintro e w3 ⟨rfl, hb3⟩
    replace V := V.up hb3
    replace be := Rp.below_up be hb3
    have x0 := V.cell
    clear hb3
    go_wp2_with fail
    refine (width_no r s.data.toList i _ V.rep HR.out).mono ?_
    rintro e w4 ⟨rfl, hb4⟩
    replace be := Rp.below_up be hb4
    clear hb4 x0 V
    go_wp2_with fail
    refine (refSpan_no s i _ hs1 HR.out).mono ?_
    rintro e w5 ⟨rfl, hb5⟩
    replace be := Rp.below_up be hb5
    go_wp2_with fail
    go_ret
    exact ⟨by first | rfl | simp, be⟩
  · obtain ⟨k, rfl⟩ := Int.eq_ofNat_of_zero_le (show 0 ≤ i by omega)
    obtain ⟨f, t, R⟩ := Pl.row_ex s.data.toList k (by omega)
    have HR := Lib.hid R; clear R hr
    have dn : decide ((f : Int) < 0) = false := by simp
    go_enter Try.func5, Try.ntmps5
    go_wp2_with (go_at_call 19; refine (alive3_any _).mono ?_; rintro e w1 ⟨rfl, hb1⟩)
    refine (of_yes s w1 (by omega)).mono ?_
    rintro e w2 ⟨r, rfl, hrp, hb2⟩
    have V := Rp.var_new hrp
    have be := (Rp.below_up hb1 hb2).alloc (Rp.below_up hb1 hb2).size (.cells #[.pointer r] 26)
    clear hb1 hb2 hrp
    go_wp2_with fail
    generalize w2.alloc (.cells #[.pointer r] 26) = u2 at *
    generalize w2.heap.size = N at *
    refine (span_yes r s.data.toList k f t _ V.rep hl1 HR.out).mono ?_
    rintro e w3 ⟨rfl, hb3⟩
    replace V := V.up hb3
    replace be := Rp.below_up be hb3
    have x0 := V.cell
    clear hb3
    go_wp2_with fail
    refine (width_yes r s.data.toList k f t _ V.rep hl1 HR.out).mono ?_
    have HW := Lib.hid (fun w' => refWidth_yes s k f t w' hs1 HR.out)
    generalize Rn.cnt (s.data.toList.take t) - Rn.cnt (s.data.toList.take f) = wd at *
    rintro e w4 ⟨rfl, hb4⟩
    replace be := Rp.below_up be hb4
    clear hb4 x0 V
    go_wp2_with fail
    refine (refSpan_yes s k f t _ hs1 HR.out).mono ?_
    rintro e w5 ⟨rfl, hb5⟩
    replace be := Rp.below_up be hb5
    go_wp2_with fail
    refine (HW.out _).mono ?_
    rintro e w6 ⟨rfl, hb6⟩
    replace be := Rp.below_up be hb6
    go_wp2_with fail
    go_ret
    exact ⟨by first | rfl | simp, be⟩
end Go.Proofs.Ytnjcahcbeicblaa
