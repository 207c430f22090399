/- The law EditApplies, walked. -/
import Derived.Test.YtigibeioapkgiaaEdQ
import Derived.Test.YtigibeioapkgiaaEdI
namespace Go.Proofs.Ytigibeioapkgiaa
set_option linter.unusedVariables false
set_option linter.unusedSimpArgs false
open Go.RowKit
/-- what a number can hold -/
def Ed.Nums (es : List Ed.E) : Prop := ∀ e ∈ es, -9223372036854775808 ≤ e.pos ∧ e.pos ≤ 9223372036854775807 ∧ -9223372036854775808 ≤ e.del ∧ e.del ≤ 9223372036854775807
theorem Ed.wf_of {es : List Ed.E} (hN : Ed.Nums es) (hg : Ed.great es = false) : Ed.Wf es := by
  obtain ⟨h1, h2⟩ := Ed.great_no hg
  exact ⟨by omega, fun e he => ⟨by have := h2 e he; omega, (hN e he).1, (hN e he).2.1, (hN e he).2.2.1, (hN e he).2.2.2⟩⟩
set_option maxRecDepth 100000 in
set_option maxHeartbeats 2000000 in
theorem appliesLaw_any (s : ByteArray) (a : Option Addr) (es : List Ed.E) (cap : Nat) (w : World) (hs : s.size ≤ maxLen) (hR : Ed.Row w a es) (hN : Ed.Nums es) :
    Calls Try.prog 3 #[.string s, .slice a es.length cap] w (Rp.BPost w true) := by
  have HR := Lib.hid hR; clear hR
  by_cases h1 : 3500 < s.size
  · have d1 : decide ((3500 : Int) < s.size) = true := by simp; omega
    go_enter Try.func3, Try.ntmps3
    go_wp2_with (go_at_call 7; refine (alive4_any _).mono ?_; rintro e w1 ⟨rfl, hb1⟩)
    go_ret
    exact ⟨rfl, hb1⟩
  have d1 : decide ((3500 : Int) < s.size) = false := by simp; omega
  have GR := fun (v : World) (h : Below w.heap.size w v) => great_any a es cap v (HR.out.up h)
  rcases Bool.eq_false_or_eq_true (Ed.great es) with hg | hg
  · rw [hg] at GR
    have HG := Lib.hid GR; clear GR hg
    go_enter Try.func3, Try.ntmps3
    go_wp2_with (go_at_call 7; refine (alive4_any _).mono ?_; rintro e w1 ⟨rfl, hb1⟩)
    refine (HG.out _ hb1).mono ?_
    rintro e w2 ⟨rfl, hb2⟩
    go_wp2_with fail
    go_ret
    exact ⟨rfl, Rp.below_up hb1 hb2⟩
  rw [hg] at GR
  have HG := Lib.hid GR
  have HW := Lib.hid (Ed.wf_of hN hg)
  clear GR hg hN
  have hs1 : s.size ≤ 1000000 := by omega
  go_enter Try.func3, Try.ntmps3
  go_wp2_with (go_at_call 7; refine (alive4_any _).mono ?_; rintro e w1 ⟨rfl, hb1⟩)
  refine (HG.out _ hb1).mono ?_
  rintro e w2 ⟨rfl, hb2⟩
  have B := Rp.below_up hb1 hb2
  clear hb1 hb2 HG
  go_wp2_with fail
  refine (of_yes s w2 (by omega)).mono ?_
  rintro e w3 ⟨p, rfl, hp, hb3⟩
  replace hb3 := Rp.below_up hb3 (Rp.below_al w3 (.cells #[.pointer p] 27))
  have V := Rp.var_new hp
  replace B := Rp.below_up B hb3
  have v0 := V.cell
  clear hb3 hp
  go_wp2_with fail
  generalize w3.alloc (.cells #[.pointer p] 27) = W3 at *
  generalize w3.heap.size = N at *
  refine (check_any p s a es cap W3 V.rep hs1 (HR.out.up B) HW.out).mono ?_
  rintro e w4 ⟨rfl, hb4⟩
  replace V := V.up hb4
  replace B := Rp.below_up B hb4
  replace v0 := V.cell
  clear hb4
  by_cases h0 : Ed.chk s es 0 0 = 0
  · rw [h0]
    have RC := fun (v : World) (h : Below w.heap.size w v) => refCheck_any s a es cap v hs1 (HR.out.up h) HW.out
    rw [h0] at RC
    have HRC := Lib.hid RC
    obtain ⟨hM, _, h4⟩ := Ed.chk_zero h0
    have hA := Ed.app_len s.data.toList (t := 0) (by rw [Rn.len_data0]; exact hM) (by omega) (by omega)
    rw [Rn.len_data0] at hA
    have HM := Lib.hid hM
    have AY := fun (v : World) (h : Below w.heap.size w v) (hp : Rp.Rep v p s.data.toList) => apply_yes p s a es cap v hp hs1 (HR.out.up h) HW.out h0
    have HAY := Lib.hid AY
    clear AY RC h0 hM
    go_wp2_with fail
    refine (HAY.out w4 B V.rep).mono ?_
    rintro e w5 ⟨q, rfl, hq, hb5⟩
    replace hb5 := Rp.below_up hb5 (Rp.below_al w5 (.cells #[.pointer q] 27))
    have V2 := Rp.var_new hq
    replace V := V.up hb5
    replace B := Rp.below_up B hb5
    clear hb5 hq v0
    go_wp2_with fail
    generalize w5.alloc (.cells #[.pointer q] 27) = W5 at *
    generalize w5.heap.size = M at *
    refine (HRC.out W5 B).mono ?_
    rintro e w6 ⟨rfl, hb6⟩
    replace V2 := V2.up hb6
    replace V := V.up hb6
    replace B := Rp.below_up B hb6
    have v0 := V.cell
    clear hb6
    go_wp2_with fail
    refine (text_s p s w6 V.rep hs1).mono ?_
    rintro e w7 ⟨rfl, hb7⟩
    replace V2 := V2.up hb7
    replace B := Rp.below_up B hb7
    have v1 := V2.cell
    clear hb7 V v0
    go_wp2_with fail
    refine (refApply_any s a es cap w7 hs1 (HR.out.up B) HW.out HM.out).mono ?_
    rintro e w8 ⟨rfl, hb8⟩
    replace V2 := V2.up hb8
    replace B := Rp.below_up B hb8
    replace v1 := V2.cell
    clear hb8
    have TX := text_any q _ w8 V2.rep (by omega)
    have hsz : (((Rp.ofL (Ed.app s.data.toList es)).size : Nat) : Int) = s.size + Ed.grows es := by rw [Rp.ofL_size]; exact hA
    clear hA
    generalize Rp.ofL (Ed.app s.data.toList es) = T at *
    have HSZ := Lib.hid hsz
    have hT : T.size ≤ 4000 := by omega
    clear hsz h4
    go_wp2_with fail
    refine TX.mono ?_
    rintro e w9 ⟨rfl, hb9⟩
    replace B := Rp.below_up B hb9
    clear hb9 V2 v1 TX
    go_wp2_with fail
    refine (grow_any a es cap s.size w9 (HR.out.up B) HW.out HM.out hs1).mono ?_
    rintro e w10 ⟨rfl, hb10⟩
    have hgr : (Ed.grows es == (T.size : Int) - s.size) = true := by rw [beq_iff_eq]; have := HSZ.out; omega
    go_wp2_with fail
    go_ret
    exact ⟨by first | rfl | simp, Rp.below_up B hb10⟩
  · have RC := fun (v : World) (h : Below w.heap.size w v) => refCheck_any s a es cap v hs1 (HR.out.up h) HW.out
    have HRC := Lib.hid RC
    have AN := fun (v : World) (h : Below w.heap.size w v) (hp : Rp.Rep v p s.data.toList) => apply_no p s a es cap v hp hs1 (HR.out.up h) HW.out h0
    have HAN := Lib.hid AN
    have d2 : (Ed.chk s es 0 0 == 0) = false := beq_eq_false_iff_ne.2 h0
    clear AN RC h0
    generalize Ed.chk s es 0 0 = y at *
    go_wp2_with fail
    refine (HAN.out w4 B V.rep).mono ?_
    rintro e w5 ⟨q, rfl, hq, hb5⟩
    replace hb5 := Rp.below_up hb5 (Rp.below_al w5 (.cells #[.pointer q] 27))
    have V2 := Rp.var_new hq
    replace V := V.up hb5
    replace B := Rp.below_up B hb5
    clear hb5 hq v0
    go_wp2_with fail
    generalize w5.alloc (.cells #[.pointer q] 27) = W5 at *
    generalize w5.heap.size = M at *
    refine (HRC.out W5 B).mono ?_
    rintro e w6 ⟨rfl, hb6⟩
    replace V2 := V2.up hb6
    replace V := V.up hb6
    replace B := Rp.below_up B hb6
    have v0 := V.cell
    clear hb6
    go_wp2_with fail
    refine (text_s p s w6 V.rep hs1).mono ?_
    rintro e w7 ⟨rfl, hb7⟩
    replace V2 := V2.up hb7
    replace B := Rp.below_up B hb7
    have v1 := V2.cell
    clear hb7 V v0
    go_wp2_with fail
    refine (len_any q [] w7 V2.rep).mono ?_
    rintro e w8 ⟨rfl, hb8⟩
    go_wp2_with fail
    go_ret
    exact ⟨by first | rfl | simp, Rp.below_up B hb8⟩
end Go.Proofs.Ytigibeioapkgiaa
