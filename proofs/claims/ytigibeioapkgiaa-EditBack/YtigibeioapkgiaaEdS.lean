/- The law EditBack, walked. -/
import Derived.Test.YtigibeioapkgiaaEdR
namespace Go.Proofs.Ytigibeioapkgiaa
set_option linter.unusedVariables false
set_option linter.unusedSimpArgs false
open Go.RowKit
theorem Ed.May.each {n : Nat} : ∀ {es : List Ed.E} {t : Int}, Ed.May n t es → ∀ e ∈ es, t ≤ e.pos ∧ 0 ≤ e.del ∧ e.pos + e.del ≤ n
  | e :: r, t, ⟨m1, m2, m3, m4⟩, y, hy => by
    rcases List.mem_cons.1 hy with rfl | hy
    · exact ⟨m1, m2, m3⟩
    · have := Ed.May.each m4 y hy; exact ⟨by omega, this.2.1, this.2.2⟩
theorem Ed.bk_ins (s : ByteArray) : ∀ {es : List Ed.E} {g : Int}, ∀ b ∈ Ed.bk s g es, b.ins.size ≤ s.size
  | e :: r, g, b, hb => by
    rcases List.mem_cons.1 hb with rfl | hb
    · simp; omega
    · exact Ed.bk_ins s b hb
/-- what is known of the edits that turn edits' text back -/
structure Ed.Turns (s T : ByteArray) (es : List Ed.E) : Prop where
  sz : T.size ≤ 4000
  may : Ed.May T.size 0 (Ed.bk s 0 es)
  wf : Ed.Wf (Ed.bk s 0 es)
  ok : Rn.wholeL s.data.toList = true → Ed.chk T (Ed.bk s 0 es) 0 0 = 0
  back : Ed.app T.data.toList (Ed.bk s 0 es) = s.data.toList
  sum : (T.size : Int) = s.size + Ed.grows es
theorem Ed.turns {s : ByteArray} {es : List Ed.E} (hs : s.size ≤ 4000) (hW : Ed.Wf es) (h0 : Ed.chk s es 0 0 = 0) : Ed.Turns s (Rp.ofL (Ed.app s.data.toList es)) es := by
  obtain ⟨hM, hF, h4⟩ := Ed.chk_zero h0
  have hl : s.data.toList.length = s.size := Rn.len_data0 s
  have hA := Ed.app_len s.data.toList (t := 0) (by rw [hl]; exact hM) (by omega) (by omega)
  have hAF := Ed.app_fwd s.data.toList (t := 0) (by rw [hl]; exact hM) (by omega) (by omega)
  rw [show (0 : Int).toNat = 0 by rfl, List.take_zero, List.nil_append] at hAF
  rw [hl] at hA
  have eT : (Rp.ofL (Ed.app s.data.toList es)).size = (Ed.app s.data.toList es).length := Rp.ofL_size _
  have eD : (Rp.ofL (Ed.app s.data.toList es)).data.toList = Ed.app s.data.toList es := Rp.ofL_data _
  generalize Rp.ofL (Ed.app s.data.toList es) = T at *
  have m := Ed.bk_may s T.size (t := 0) (g := 0) hM (by omega) (by omega) (by omega)
  rw [Int.add_zero] at m
  have hT4 : T.size ≤ 4000 := by omega
  refine ⟨hT4, m, ⟨by rw [Ed.bk_len]; exact hW.len, fun b hb => ?_⟩, fun hw => ?_, ?_, by omega⟩
  · have h1 := Ed.bk_ins s b hb
    have h2 := m.each b hb
    exact ⟨by omega, by omega, by omega, by omega, by omega⟩
  · refine Ed.chk_of m ?_ ?_
    · exact Ed.bk_fits s T hw (t := 0) (g := 0) [] hM (by omega) (by omega) hF (by rw [eD, hAF]; rfl) rfl
    · rw [Ed.bk_grows s hM (by omega)]; omega
  · have e1 := Ed.app_fwd T.data.toList (es := Ed.bk s 0 es) (t := 0) (by rw [Rn.len_data0]; exact m) (by omega) (by omega)
    rw [show (0 : Int).toNat = 0 by rfl, List.take_zero, List.nil_append] at e1
    have e2 := Ed.bk_fwd s T.data.toList (t := 0) (g := 0) [] hM (by omega) (by omega) (by rw [eD, hAF]; rfl) rfl
    rw [Int.add_zero] at e2
    rw [e1, e2]; rfl
set_option maxRecDepth 100000 in
set_option maxHeartbeats 2000000 in
theorem backLaw4_any (s : ByteArray) (a : Option Addr) (es : List Ed.E) (cap : Nat) (w : World) (hs : s.size ≤ maxLen) (hR : Ed.Row w a es) (hN : Ed.Nums es) (hcap : es.length ≤ cap) (hcap2 : cap ≤ maxLen) :
    Calls Try.prog 4 #[.string s, .slice a es.length cap] w (Rp.BPost w true) := by
  have HR := Lib.hid hR; clear hR
  by_cases h1 : 2000 < s.size
  · have d1 : decide ((2000 : Int) < s.size) = true := by simp; omega
    go_enter Try.func4, Try.ntmps4
    go_wp2_with (go_at_call 7; refine (alive4_any _).mono ?_; rintro e w1 ⟨rfl, hb1⟩)
    go_ret
    exact ⟨rfl, hb1⟩
  have d1 : decide ((2000 : Int) < s.size) = false := by simp; omega
  have GR := fun (v : World) (h : Below w.heap.size w v) => great_any a es cap v (HR.out.up h)
  rcases Bool.eq_false_or_eq_true (Ed.great es) with hg | hg
  · rw [hg] at GR
    have HG := Lib.hid GR; clear GR hg
    go_enter Try.func4, Try.ntmps4
    go_wp2_with (go_at_call 7; refine (alive4_any _).mono ?_; rintro e w1 ⟨rfl, hb1⟩)
    refine (HG.out _ hb1).mono ?_
    rintro e w2 ⟨rfl, hb2⟩
    go_wp2_with fail
    go_ret
    exact ⟨rfl, Rp.below_up hb1 hb2⟩
  rw [hg] at GR
  have HG := Lib.hid GR
  have HW := Lib.hid (Ed.wf_of hN hg)
  clear GR hg hN
  have hs1 : s.size ≤ 1000000 := by omega
  have WH := fun v => refWhole_any s v hs
  rcases Bool.eq_false_or_eq_true (Rn.wholeL s.data.toList) with hw | hw
  rotate_left
  · rw [hw] at WH
    have HWH := Lib.hid WH; clear WH hw
    go_enter Try.func4, Try.ntmps4
    go_wp2_with (go_at_call 7; refine (alive4_any _).mono ?_; rintro e w1 ⟨rfl, hb1⟩)
    refine (HG.out _ hb1).mono ?_
    rintro e w2 ⟨rfl, hb2⟩
    go_wp2_with fail
    refine (HWH.out w2).mono ?_
    rintro e w3 ⟨rfl, hb3⟩
    go_wp2_with fail
    go_ret
    exact ⟨rfl, Rp.below_up (Rp.below_up hb1 hb2) hb3⟩
  rw [hw] at WH
  have HWH := Lib.hid WH; clear WH
  have HHW := Lib.hid hw; clear hw
  go_enter Try.func4, Try.ntmps4
  go_wp2_with (go_at_call 7; refine (alive4_any _).mono ?_; rintro e w1 ⟨rfl, hb1⟩)
  refine (HG.out _ hb1).mono ?_
  rintro e w2 ⟨rfl, hb2⟩
  go_wp2_with fail
  refine (HWH.out w2).mono ?_
  rintro e w3 ⟨rfl, hb3⟩
  have B := Rp.below_up (Rp.below_up hb1 hb2) hb3
  clear hb1 hb2 hb3 HG HWH
  go_wp2_with fail
  refine (of_yes s w3 (by omega)).mono ?_
  rintro e w4 ⟨p, rfl, hp, hb4⟩
  replace hb4 := Rp.below_up hb4 (Rp.below_al w4 (.cells #[.pointer p] 27))
  have V := Rp.var_new hp
  replace B := Rp.below_up B hb4
  have v0 := V.cell
  clear hb4 hp
  go_wp2_with fail
  generalize w4.alloc (.cells #[.pointer p] 27) = W4 at *
  generalize w4.heap.size = N at *
  by_cases h0 : Ed.chk s es 0 0 = 0
  · have RC := fun (v : World) (h : Below w.heap.size w v) => refCheck_any s a es cap v hs1 (HR.out.up h) HW.out
    rw [h0] at RC
    have HRC := Lib.hid RC
    have HM := Lib.hid (Ed.chk_zero h0).1
    have HT := Lib.hid (Ed.turns (by omega) HW.out h0)
    have AY := fun (v : World) (h : Below w.heap.size w v) (hp : Rp.Rep v p s.data.toList) => apply_yes p s a es cap v hp hs1 (HR.out.up h) HW.out h0
    have HAY := Lib.hid AY
    have BY := fun (v : World) (h : Below w.heap.size w v) (hp : Rp.Rep v p s.data.toList) => back_yes p s a es cap v hp hs1 (HR.out.up h) HW.out h0
    have HBY := Lib.hid BY
    clear AY BY RC h0
    refine (HBY.out W4 B V.rep).mono ?_
    rintro e w5 ⟨a5, cap5, rfl, R5, hb5⟩
    replace V := V.up hb5
    replace B := Rp.below_up B hb5
    replace v0 := V.cell
    clear hb5
    go_wp2_with fail
    refine (HRC.out w5 B).mono ?_
    rintro e w6 ⟨rfl, hb6⟩
    replace V := V.up hb6
    replace R5 := R5.up hb6
    replace B := Rp.below_up B hb6
    replace v0 := V.cell
    clear hb6
    go_wp2_with fail
    refine (HAY.out w6 B V.rep).mono ?_
    rintro e w7 ⟨q, rfl, hq, hb7⟩
    replace hb7 := Rp.below_up hb7 (Rp.below_al w7 (.cells #[.pointer q] 27))
    have V2 := Rp.var_new hq
    replace R5 := R5.up hb7
    replace B := Rp.below_up B hb7
    have v1 := V2.cell
    clear hb7 hq v0 V
    go_wp2_with fail
    generalize w7.alloc (.cells #[.pointer q] 27) = W7 at *
    generalize w7.heap.size = M at *
    have eD : Ed.app s.data.toList es = (Rp.ofL (Ed.app s.data.toList es)).data.toList := (Rp.ofL_data _).symm
    rw [eD] at V2
    clear eD
    generalize Rp.ofL (Ed.app s.data.toList es) = T at *
    have AP := apply_yes q T a5 (Ed.bk s 0 es) cap5 W7 V2.rep (by have := HT.out.sz; omega) R5 HT.out.wf (HT.out.ok HHW.out)
    rw [HT.out.back] at AP
    refine AP.mono ?_
    rintro e w8 ⟨r, rfl, hr, hb8⟩
    replace hb8 := Rp.below_up hb8 (Rp.below_al w8 (.cells #[.pointer r] 27))
    have V3 := Rp.var_new hr
    replace R5 := R5.up hb8
    replace B := Rp.below_up B hb8
    clear hb8 hr V2 v1 AP
    go_wp2_with fail
    generalize w8.alloc (.cells #[.pointer r] 27) = W8 at *
    generalize w8.heap.size = L at *
    refine (refBack_any s a es cap W8 hs1 (HR.out.up B) HW.out HM.out hcap hcap2).mono ?_
    rintro e w9 ⟨a9, cap9, rfl, R9, hb9⟩
    replace R5 := R5.up hb9
    replace V3 := V3.up hb9
    replace B := Rp.below_up B hb9
    clear hb9
    go_wp2_with fail
    refine (refSame_yes a5 a9 (Ed.bk s 0 es) cap5 cap9 w9 R5 R9 HT.out.wf.len).mono ?_
    rintro e w10 ⟨rfl, hb10⟩
    replace V3 := V3.up hb10
    replace B := Rp.below_up B hb10
    have v3 := V3.cell
    clear hb10 R5 R9
    go_wp2_with fail
    refine (text_s r s w10 V3.rep hs1).mono ?_
    rintro e w11 ⟨rfl, hb11⟩
    go_wp2_with fail
    go_ret
    exact ⟨by first | rfl | simp, Rp.below_up B hb11⟩
  · have RC := fun (v : World) (h : Below w.heap.size w v) => refCheck_any s a es cap v hs1 (HR.out.up h) HW.out
    have HRC := Lib.hid RC
    have AN := fun (v : World) (h : Below w.heap.size w v) (hp : Rp.Rep v p s.data.toList) => back_no p s a es cap v hp hs1 (HR.out.up h) HW.out h0
    have HAN := Lib.hid AN
    have d2 : (Ed.chk s es 0 0 == 0) = false := beq_eq_false_iff_ne.2 h0
    clear AN RC h0
    generalize Ed.chk s es 0 0 = y at *
    refine (HAN.out W4 B V.rep).mono ?_
    rintro e w5 ⟨a5, cap5, rfl, R5, hb5⟩
    replace B := Rp.below_up B hb5
    clear hb5 V v0
    go_wp2_with fail
    refine (HRC.out w5 B).mono ?_
    rintro e w6 ⟨rfl, hb6⟩
    go_wp2_with fail
    go_ret
    exact ⟨by first | rfl | simp, Rp.below_up B hb6⟩
end Go.Proofs.Ytigibeioapkgiaa
