/- The law RopeSlices, walked. -/
import Derived.Test.YtngighdhlehocaaRpW
namespace Go.Proofs.Ytngighdhlehocaa
set_option linter.unusedVariables false
set_option linter.unusedSimpArgs false
open Go.RowKit
open Rp (Tr)
theorem slice_s (p : Option Addr) (s : ByteArray) (f g : Nat) (w : World) (hp : Rp.Rep w p s.data.toList) (hs : s.size ≤ 1000000) (h1 : f ≤ g) (h2 : g ≤ s.size) : Calls Try.prog 16 #[.agg #[.pointer p], .int .i64 f, .int .i64 g] w (Rp.SPost w (s.extract f g) 0) := by
  have := slice_yes p s.data.toList f g w hp (by simpa using hs) (by simp [Rp.spanB]; omega)
  have e : Rp.ofL (Rp.sl s.data.toList f g) = s.extract f g := by
    by_cases h0 : 0 < g
    · rw [← Rp.sl_mid s f g f g (by simp) (by omega) (by omega), Rp.ofL_self]
    · have e1 : g = 0 := by omega
      have e2 : f = 0 := by omega
      subst e1; subst e2
      rw [← Rp.ofL_self (s.extract 0 0)]
      simp [Rp.sl]
  rw [e] at this; exact this
theorem slice_s_no (p : Option Addr) (s : ByteArray) (f g : Int) (w : World) (hp : Rp.Rep w p s.data.toList) (h : Rp.spanB s.size f g = false) : Calls Try.prog 16 #[.agg #[.pointer p], .int .i64 f, .int .i64 g] w (Rp.SPost w ⟨#[]⟩ 3) :=
  slice_no p s.data.toList f g w hp (by rw [Rn.len_data0]; exact h)
set_option maxRecDepth 100000 in
set_option maxHeartbeats 2000000 in
theorem slicesLaw_any (s : ByteArray) (f g i : Int) (w : World) (hs : s.size ≤ maxLen) : Calls Try.prog 4 #[.string s, .int .i64 f, .int .i64 g, .int .i64 i] w (Rp.BPost w true) := by
  by_cases h1 : 4500 < s.size
  · have d1 : decide ((4500 : Int) < s.size) = true := by simp; omega
    go_enter Try.func4, Try.ntmps4
    go_wp2_with (go_at_call 6; refine (alive2_any _).mono ?_; rintro e w1 ⟨rfl, hb1⟩)
    go_ret
    exact ⟨rfl, hb1⟩
  have d1 : decide ((4500 : Int) < s.size) = false := by simp; omega
  by_cases h2 : 4000 < s.size
  · have d2 : decide ((4000 : Int) < s.size) = true := by simp; omega
    go_enter Try.func4, Try.ntmps4
    go_wp2_with (go_at_call 6; refine (alive2_any _).mono ?_; rintro e w1 ⟨rfl, hb1⟩)
    refine (of_no s w1 hs h2).mono ?_
    rintro e w2 ⟨r, rfl, hr, hb2⟩
    have V := Rp.var_new hr
    have B := (Rp.below_up hb1 hb2).alloc (Rp.below_up hb1 hb2).size (.cells #[.pointer r] 26)
    go_wp2_with fail
    generalize w2.alloc (.cells #[.pointer r] 26) = u2 at *
    refine (len_s r ⟨#[]⟩ _ V.rep).mono ?_
    rintro e w3 ⟨rfl, hb3⟩
    replace V := V.up hb3
    replace B := Rp.below_up B hb3
    have x := V.cell
    have ez : ((⟨#[]⟩ : ByteArray).size : Int) = 0 := rfl
    rw [ez]; clear ez
    go_wp2_with fail
    refine (text_s r ⟨#[]⟩ _ V.rep (by decide)).mono ?_
    rintro e w4 ⟨rfl, hb4⟩
    go_wp2_with fail
    go_ret
    exact ⟨by first | rfl | simp, Rp.below_up B hb4⟩
  have d2 : decide ((4000 : Int) < s.size) = false := by simp; omega
  have hs1 : s.size ≤ 1000000 := by omega
  rcases Bool.eq_false_or_eq_true (Rp.spanB s.size f g) with hsp | hsp
  · obtain ⟨z1, z2, z3⟩ := Rp.spanB_true hsp
    obtain ⟨F, rfl⟩ := Int.eq_ofNat_of_zero_le z1
    obtain ⟨G, rfl⟩ := Int.eq_ofNat_of_zero_le (show 0 ≤ g by omega)
    have k1 : F ≤ G := by omega
    have k2 : G ≤ s.size := by omega
    go_enter Try.func4, Try.ntmps4
    go_wp2_with (go_at_call 6; refine (alive2_any _).mono ?_; rintro e w1 ⟨rfl, hb1⟩)
    refine (of_yes s w1 (by omega)).mono ?_
    rintro e w2 ⟨r, rfl, hr, hb2⟩
    have V := Rp.var_new hr
    have B := (Rp.below_up hb1 hb2).alloc (Rp.below_up hb1 hb2).size (.cells #[.pointer r] 26)
    go_wp2_with fail
    generalize w2.alloc (.cells #[.pointer r] 26) = u2 at *
    refine (slice_s r s F G _ V.rep hs1 k1 k2).mono ?_
    rintro e w3 ⟨rfl, hb3⟩
    replace V := V.up hb3
    replace B := Rp.below_up B hb3
    have x := V.cell
    go_wp2_with fail
    refine (refSpan_any s F G _).mono ?_
    rintro e w' ⟨rfl, rfl⟩
    go_wp2_with fail
    obtain ⟨n, hn, hh⟩ := V.rep.bound
    rw [Rn.len_data0] at hn
    refine (same_any r s n _ V.rep hh hs1 hn i).mono ?_
    rintro e w4 ⟨rfl, hb4⟩
    go_wp2_with fail
    go_ret
    exact ⟨by first | rfl | simp, Rp.below_up B hb4⟩
  · go_enter Try.func4, Try.ntmps4
    go_wp2_with (go_at_call 6; refine (alive2_any _).mono ?_; rintro e w1 ⟨rfl, hb1⟩)
    refine (of_yes s w1 (by omega)).mono ?_
    rintro e w2 ⟨r, rfl, hr, hb2⟩
    have V := Rp.var_new hr
    have B := (Rp.below_up hb1 hb2).alloc (Rp.below_up hb1 hb2).size (.cells #[.pointer r] 26)
    go_wp2_with fail
    generalize w2.alloc (.cells #[.pointer r] 26) = u2 at *
    refine (slice_s_no r s f g _ V.rep hsp).mono ?_
    rintro e w3 ⟨rfl, hb3⟩
    replace B := Rp.below_up B hb3
    go_wp2_with fail
    refine (refSpan_any s f g _).mono ?_
    rintro e w' ⟨rfl, rfl⟩
    go_wp2_with fail
    go_ret
    exact ⟨by first | rfl | simp, B⟩
end Go.Proofs.Ytngighdhlehocaa
