/- The law PlaceUp, walked. -/
import Derived.Test.YtnjcahcbeicblaaPlI
namespace Go.Proofs.Ytnjcahcbeicblaa
set_option linter.unusedVariables false
set_option linter.unusedSimpArgs false
open Go.RowKit
open Rp (Tr)
set_option maxRecDepth 100000 in
set_option maxHeartbeats 2000000 in
theorem upLaw_any (s : ByteArray) (i n : Int) (w : World) (hs : s.size ≤ maxLen) (hn1 : -9223372036854775808 ≤ n) (hn2 : n ≤ 9223372036854775807) : Calls Try.prog 8 #[.string s, .int .i64 i, .int .i64 n] w (Rp.BPost w true) := by
  by_cases h1 : 200 < s.size
  · have d1 : decide ((200 : Int) < s.size) = true := by simp; omega
    go_enter Try.func8, Try.ntmps8
    go_wp2_with (go_at_call 19; refine (alive3_any _).mono ?_; rintro e w1 ⟨rfl, hb1⟩)
    go_ret
    exact ⟨rfl, hb1⟩
  have d1 : decide ((200 : Int) < s.size) = false := by simp; omega
  have hs1 : s.size ≤ 1000000 := by omega
  by_cases hr : i < 0 ∨ (s.size : Int) < i
  · have hor : (decide (i < 0) = true) ∨ (decide (i < 0) = false ∧ decide ((s.size : Int) < i) = true) := by
      by_cases h2 : i < 0
      · exact .inl (by simp [h2])
      · exact .inr ⟨by simp; omega, by simp; omega⟩
    rcases hor with d2 | ⟨d2, d3⟩
    all_goals
      go_enter Try.func8, Try.ntmps8
      go_wp2_with (go_at_call 19; refine (alive3_any _).mono ?_; rintro e w1 ⟨rfl, hb1⟩)
      refine (of_yes s w1 (by omega)).mono ?_
      rintro e w2 ⟨r, rfl, hrp, hb2⟩
      have V := Rp.var_new hrp
      have be := (Rp.below_up hb1 hb2).alloc (Rp.below_up hb1 hb2).size (.cells #[.pointer r] 26)
      clear hb1 hb2 hrp
      go_wp2_with fail
      generalize w2.alloc (.cells #[.pointer r] 26) = u2 at *
      generalize w2.heap.size = N at *
      refine (up_no r s.data.toList i n _ V.rep (by rw [Rn.len_data0]; exact hr)).mono ?_
      rintro e w3 ⟨rfl, hb3⟩
      replace be := Rp.below_up be hb3
      go_wp2_with fail
      go_ret
      exact ⟨by first | rfl | simp, be⟩
  · obtain ⟨a, rfl⟩ := Int.eq_ofNat_of_zero_le (show 0 ≤ i by omega)
    have ha : a ≤ s.size := by omega
    have d2 : decide ((a : Int) < 0) = false := by simp
    have d3 : decide (s.size < a) = false := by simp; omega
    have b0 : Rp.lns (s.data.toList.take a) ≤ Rp.lns s.data.toList := Rp.lns_take_le _ _
    have b2 : Rp.lns s.data.toList ≤ 1000000 := by have h1 := Rp.lns_le s.data.toList; rw [Rn.len_data0] at h1; omega
    have b3 := (Pl.col_bd (s.data.toList.take a)).1
    clear hr
    go_enter Try.func8, Try.ntmps8
    go_wp2_with (go_at_call 19; refine (alive3_any _).mono ?_; rintro e w1 ⟨rfl, hb1⟩)
    refine (of_yes s w1 (by omega)).mono ?_
    rintro e w2 ⟨r, rfl, hrp, hb2⟩
    have V := Rp.var_new hrp
    have be := (Rp.below_up hb1 hb2).alloc (Rp.below_up hb1 hb2).size (.cells #[.pointer r] 26)
    clear hb1 hb2 hrp
    go_wp2_with fail
    generalize w2.alloc (.cells #[.pointer r] 26) = u2 at *
    generalize w2.heap.size = N at *
    refine (up_yes r s a n _ V.rep hs1 ha (by omega)).mono ?_
    have HM := Lib.hid (fun w' => refMark_any s a w' hs1 ha)
    have HL := Lib.hid (fun w' => refLinesP_any s w' hs1)
    have HNR := Lib.hid (fun (x y m : Int) w' (hx : 0 ≤ x) (hy : 0 ≤ y) (h : Pl.NearIs s x y m) => refNear_any s x y m w' hs1 hx hy h)
    have hlow : ∀ x y m, Pl.NearIs s x y m → x < 0 → m = 0 := by
      rintro x y m (⟨_, h⟩ | ⟨h, _⟩ | ⟨k, f, t, h, _, _⟩) hx
      · exact h
      · omega
      · omega
    have hfar : ∀ x y m, Pl.NearIs s x y m → (Rp.lns s.data.toList : Int) < x → m = s.size := by
      rintro x y m (⟨h, _⟩ | ⟨_, h⟩ | ⟨k, f, t, h, R, _⟩) hx
      · omega
      · exact h
      · have := R.kl; omega
    have HLOW := Lib.hid hlow; have HFAR := Lib.hid hfar
    clear hlow hfar
    generalize Rp.lns (s.data.toList.take a) = L at *
    generalize Pl.col (s.data.toList.take a) = C at *
    rintro e w3 ⟨m, hm, rfl, hb3⟩
    replace be := Rp.below_up be hb3
    have HNM := Lib.hid hm
    clear hb3 V hm
    go_wp2_with fail
    refine (HM.out _).mono ?_
    rintro e w4 ⟨rfl, hb4⟩
    have hMw : w.heap.size ≤ w4.heap.size := (Rp.below_up be hb4).size
    replace be := (Rp.below_up be hb4).alloc (Rp.below_up be hb4).size (.cells #[.int .i64 L, .int .i64 C] 46)
    have B := Pl.box2_new (v := w4) L C 46
    clear hb4
    by_cases hbig : (L : Int) < n
    · have hm0 : m = 0 := HLOW.out _ _ _ HNM.out (by omega)
      subst hm0
      go_wp2_with fail
      go_ret
      exact ⟨by first | rfl | simp, be⟩
    · have db : decide ((L : Int) < n) = false := by simp; omega
      have hwl : IntKind.i64.wrap ((L : Int) - ((Rp.lns s.data.toList : Int) + 1)) = (L : Int) - ((Rp.lns s.data.toList : Int) + 1) := IntWalk.i64_in _ (by omega)
      by_cases hlow : n < (L : Int) - ((Rp.lns s.data.toList : Int) + 1)
      · have hm0 : m = s.size := HFAR.out _ _ _ HNM.out (by omega)
        subst hm0
        have dl : decide (n < (L : Int) - ((Rp.lns s.data.toList : Int) + 1)) = true := by simp; omega
        clear hbig hlow
        go_wp2_with fail
        have c0 := B.c0
        clear B
        generalize w4.alloc (.cells #[.int .i64 L, .int .i64 C] 46) = u4 at *
        generalize w4.heap.size = M at *
        go_region_held3 (fun v => v.cell? ⟨M, 0, none⟩ = some (.int .i64 L) ∧ Below w.heap.size w v)
          (first
            | (refine ⟨?_, ?_⟩ <;> with_reducible (first | (refine Rp.cell_dr ?_; assumption) | (refine Rp.below_dr ?_; assumption)))
            | (go_split_ands; refine ⟨?_, ?_⟩ <;> with_reducible (first | (refine Rp.cell_up hb5 ?_; assumption) | (refine Rp.below_up ?_ hb5; assumption))))
          (first
            | (go_at_call 22; refine (HL.out _).mono ?_; rintro e w5 ⟨rfl, hb5⟩))
        all_goals
          go_split_ands
          go_wp2_with fail
          go_ret
          exact ⟨by first | rfl | simp, by assumption⟩
      · have dl : decide (n < (L : Int) - ((Rp.lns s.data.toList : Int) + 1)) = false := by simp; omega
        have hX : (L : Int) - max n (-(1 + (Rp.lns s.data.toList : Int))) = (L : Int) - n := by omega
        have hnm := HNM.out
        rw [hX] at hnm
        have HNQ := Lib.hid (fun w' => HNR.out ((L : Int) - n) C m w' (by omega) b3 hnm)
        clear hX hnm
        have hq1 : -9223372036854775808 ≤ (L : Int) - n := by omega
        have hq2 : (L : Int) - n ≤ 9223372036854775807 := by omega
        clear hbig hlow
        go_wp2_with fail
        generalize w4.alloc (.cells #[.int .i64 L, .int .i64 C] 46) = u4 at *
        generalize w4.heap.size = M at *
        have c0 := B.c0
        go_region_held3 (fun v => v.cell? ⟨M, 0, none⟩ = some (.int .i64 L) ∧ Pl.Box2 v M L C ∧ Below w.heap.size w v)
          (first
            | (refine ⟨?_, ?_, ?_⟩ <;> with_reducible (first | (refine Rp.cell_dr ?_; assumption) | (refine Pl.Box2.up (Below.refl _ _).drew ?_; assumption) | (refine Rp.below_dr ?_; assumption)))
            | (go_split_ands; refine ⟨?_, ?_, ?_⟩ <;> with_reducible (first | (refine Rp.cell_up hb5 ?_; assumption) | (refine Pl.Box2.up hb5 ?_; assumption) | (refine Rp.below_up ?_ hb5; assumption))))
          (first
            | (go_at_call 22; refine (HL.out _).mono ?_; rintro e w5 ⟨rfl, hb5⟩))
        all_goals
          clear c0 B be
          obtain ⟨_, B5, be5⟩ := ‹w5.cell? ⟨M, 0, none⟩ = some (.int .i64 L) ∧ Pl.Box2 w5 M L C ∧ Below w.heap.size w w5›
          have B6 := B5.set0 ((L : Int) - n)
          have be6 := be5.setCell (p := ⟨M, 0, none⟩) hMw (.int .i64 ((L : Int) - n))
          obtain ⟨c0, c1, f0, f1⟩ := B5
          go_wp2_with fail
          refine (HNQ.out _).mono ?_
          rintro e w7 ⟨rfl, hb7⟩
          go_wp2_with fail
          go_ret
          exact ⟨by first | rfl | simp, Rp.below_up be6 hb7⟩
end Go.Proofs.Ytnjcahcbeicblaa
