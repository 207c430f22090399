/- The document's examples of layer 4, walked; how great edits are. -/
import Derived.Test.YtigibeioapkgiaaEdE
import Derived.Test.YtigibeioapkgiaaEdH
import Derived.Test.YtigibeioapkgiaaEdL
import Derived.Test.YtigibeioapkgiaaEdP
namespace Go.Proofs.Ytigibeioapkgiaa
set_option linter.unusedVariables false
set_option linter.unusedSimpArgs false
open Go.RowKit
def Ed.great (es : List Ed.E) : Bool := decide (30 < es.length) || es.any fun e => decide (4500 < e.ins.size)
theorem Ed.great_no {es : List Ed.E} (h : Ed.great es = false) : es.length ≤ 30 ∧ ∀ e ∈ es, e.ins.size ≤ 4500 := by
  simp [Ed.great] at h
  exact ⟨by omega, fun e he => h.2 e he⟩
set_option maxRecDepth 100000 in
set_option maxHeartbeats 1000000 in
theorem great_any (a : Option Addr) (es : List Ed.E) (cap : Nat) (w : World) (hR : Ed.Row w a es) :
    Calls Try.prog 8 #[.slice a es.length cap] w (Rp.BPost w (Ed.great es)) := by
  have HR := Lib.hid hR; clear hR
  by_cases hl : 30 < es.length
  · have d1 : decide ((30 : Int) < (es.length : Int)) = true := by simp; omega
    have Q := Lib.hid (show Ed.great es = true by simp [Ed.great, hl])
    clear hl
    go_enter Try.func8, Try.ntmps8
    go_wp2_with fail
    go_ret
    exact ⟨ret_bool Q.out.symm, Below.refl _ _⟩
  have d1 : decide ((30 : Int) < (es.length : Int)) = false := by simp; omega
  go_enter Try.func8, Try.ntmps8
  go_wp2_with fail
  go_loopg [3] es.length (fun g v wr => ∃ k : Nat, g + k = es.length ∧ v = .int .i64 k ∧ (∀ e ∈ es.take k, e.ins.size ≤ 4500) ∧ Below w.heap.size w wr)
  case atStart => exact ⟨0, by omega, rfl, fun e he => by simp at he, Below.refl _ _⟩
  case round =>
    obtain ⟨k, hgk, rfl, hall, B⟩ := hrel
    have HA := Lib.hid hall; clear hall
    by_cases hk : k < es.length
    · obtain ⟨x, rfl, hE⟩ := HR.out k hk
      obtain ⟨e0, e1, e2⟩ := hE.up B
      have k1 : (0 : Int) ≤ (k : Int) := by omega
      have k2 : (k : Int) < (es.length : Int) := by omega
      have ht := Ed.take_at hk
      have HT := Lib.hid ht; clear ht
      have HM := Lib.hid (List.getElem_mem hk)
      clear hE
      generalize es[k] = e at *
      by_cases hz : 4500 < e.ins.size
      · have d2 : decide ((4500 : Int) < (e.ins.size : Int)) = true := by simp; omega
        have Q := Lib.hid (show Ed.great es = true by
          simp only [Ed.great, Bool.or_eq_true, List.any_eq_true, decide_eq_true_eq]
          exact .inr ⟨e, HM.out, hz⟩)
        clear hz
        go_wp2_with fail
        go_ret
        exact ⟨ret_bool Q.out.symm, B⟩
      · have d2 : decide ((4500 : Int) < (e.ins.size : Int)) = false := by simp; omega
        go_wp2_with fail
        go_roundg (gk - 1)
        case measure => omega
        refine ⟨k + 1, by omega, by go_num, fun x hx => ?_, B⟩
        rw [HT.out] at hx
        rcases List.mem_append.1 hx with hx | hx
        · exact HA.out x hx
        · simp at hx; subst hx; omega
    · have k2 : ¬ (k : Int) < (es.length : Int) := by omega
      have Q := Lib.hid (show Ed.great es = false by
        have := HA.out
        rw [List.take_of_length_le (by omega)] at this
        simp only [Ed.great, Bool.or_eq_false_iff, decide_eq_false_iff_not, List.any_eq_false, decide_eq_true_eq]
        exact ⟨hl, fun e he => by have := this e he; omega⟩)
      go_wp2_with fail
      go_ret
      exact ⟨ret_bool Q.out.symm, B⟩
def Ed.exS : ByteArray := ⟨#[97, 98, 99, 100]⟩
def Ed.exL : List Ed.E := [⟨1, 1, ⟨#[120, 121]⟩⟩, ⟨3, 0, ⟨#[122]⟩⟩]
theorem Ed.ex_chk : Ed.chk Ed.exS Ed.exL 0 0 = 0 := by kernel_rfl
theorem Ed.ex_app : Ed.app Ed.exS.data.toList Ed.exL = [97, 120, 121, 99, 122, 100] := by kernel_rfl
theorem Ed.ex_bk : Ed.bk Ed.exS 0 Ed.exL = [⟨1, 2, ⟨#[98]⟩⟩, ⟨4, 1, ⟨#[]⟩⟩] := by kernel_rfl
theorem Ed.ex_m1 : Ed.mv 3 false Ed.exL 0 3 = 4 := by kernel_rfl
theorem Ed.ex_m2 : Ed.mv 3 true Ed.exL 0 3 = 5 := by kernel_rfl
theorem Ed.ex_m3 : Ed.mv 2 false Ed.exL 0 2 = 3 := by kernel_rfl
theorem Ed.ex_wf : Ed.Wf Ed.exL := ⟨by decide, by decide⟩
theorem Ed.ex_may : Ed.May 4 0 Ed.exL := (Ed.chk_zero Ed.ex_chk).1
theorem Ed.row_one (w : World) (e : Ed.E) : Ed.Row (w.alloc (.cells #[.int .i64 e.pos, .int .i64 e.del, .string e.ins] 46)) (some ⟨w.heap.size, 0, none⟩) [e] := by
  intro i hi
  match i, hi with
  | 0, _ => exact ⟨_, rfl, by rw [Ed.add_is]; exact ⟨by simp [go_sem], by simp [go_sem], by simp [go_sem]⟩⟩
theorem Ed.row_pair (w : World) (e f : Ed.E) : Ed.Row (w.alloc (.cells #[.int .i64 e.pos, .int .i64 e.del, .string e.ins, .int .i64 f.pos, .int .i64 f.del, .string f.ins] 46)) (some ⟨w.heap.size, 0, none⟩) [e, f] := by
  intro i hi
  match i, hi with
  | 0, _ => exact ⟨_, rfl, by rw [Ed.add_is]; exact ⟨by simp [go_sem], by simp [go_sem], by simp [go_sem]⟩⟩
  | 1, _ => exact ⟨_, rfl, by rw [Ed.add_is]; exact ⟨by simp [go_sem], by simp [go_sem], by simp [go_sem]⟩⟩
def Ed.d1 : ByteArray := ⟨#[97, 98, 99]⟩
def Ed.d2 : ByteArray := ⟨#[97, 120, 99]⟩
theorem Ed.ex_beg {B : Nat} (h : Ed.Beg Ed.d1 Ed.d2 B) : B = 1 := by
  have h1 := h.bs
  have h2 := h.eq
  have h3 := h.most 1
  have e : Ed.d1.size = 3 := rfl
  rw [e] at h1
  match B, h1 with
  | 0, _ => exact absurd (by decide) (h3 (by decide) (by decide) (by decide) (by decide) (by decide))
  | 1, _ => rfl
  | 2, _ => revert h2; decide
  | 3, _ => revert h2; decide
theorem Ed.ex_tl {K : Nat} (h : Ed.Tl (Ed.d1.extract 1 Ed.d1.size) (Ed.d2.extract 1 Ed.d2.size) K) : K = 1 := by
  have e1 : Ed.d1.extract 1 Ed.d1.size = ⟨#[98, 99]⟩ := by decide
  have e2 : Ed.d2.extract 1 Ed.d2.size = ⟨#[120, 99]⟩ := by decide
  rw [e1, e2] at h
  have h1 := h.ks
  have h2 := h.eq
  have h3 := h.most 1
  have e : (ByteArray.mk #[98, 99]).size = 2 := rfl
  rw [e] at h1
  match K, h1 with
  | 0, _ => exact absurd (by decide) (h3 (by decide) (by decide) (by decide) (by decide) (by decide))
  | 1, _ => rfl
  | 2, _ => revert h2; decide
theorem diff_ex (w : World) : Calls Try.prog 24 #[.string ⟨#[97, 98, 99]⟩, .string ⟨#[97, 120, 99]⟩] w (Ed.EPost w ⟨1, 1, ⟨#[120]⟩⟩) := by
  refine (diff_any Ed.d1 Ed.d2 w (by decide) (by decide)).mono ?_
  rintro r w' ⟨B, K, hB, hK, rfl, hb⟩
  obtain rfl := Ed.ex_beg hB
  obtain rfl := Ed.ex_tl hK
  refine ⟨?_, hb⟩
  have e1 : (Ed.d2.extract 1 Ed.d2.size).extract 0 (Ed.d2.size - 1 - 1) = ⟨#[120]⟩ := by decide
  rw [e1]; rfl
set_option maxRecDepth 100000 in
set_option maxHeartbeats 2000000 in
theorem alive4_any (w : World) : Calls Try.prog 7 #[] w (Rp.BPost w true) := by
  go_enter Try.func7, Try.ntmps7
  go_wp2_with fail
  refine (of_yes ⟨#[97, 98, 99, 100]⟩ w (by decide)).mono ?_
  rintro r w1 ⟨p, rfl, hp, hb1⟩
  have V := Rp.var_new hp
  have B := Rp.below_up hb1 (Rp.below_al w1 (.cells #[.pointer p] 27))
  have eN : (w1.alloc (.cells #[.pointer p] 27)).heap.size = w1.heap.size + 1 := by simp [go_sem]
  have R := Ed.row_pair (w1.alloc (.cells #[.pointer p] 27)) ⟨1, 1, ⟨#[120, 121]⟩⟩ ⟨3, 0, ⟨#[122]⟩⟩
  have hb2 := Rp.below_al (w1.alloc (.cells #[.pointer p] 27)) (.cells #[.int .i64 1, .int .i64 1, .string ⟨#[120, 121]⟩, .int .i64 3, .int .i64 0, .string ⟨#[122]⟩] 46)
  rw [eN] at R
  replace V := V.up hb2
  replace B := Rp.below_up B hb2
  have v0 := V.cell
  clear hb1 hb2 eN hp
  go_wp2_with fail
  generalize (w1.alloc (.cells #[.pointer p] 27)).alloc (.cells #[.int .i64 1, .int .i64 1, .string ⟨#[120, 121]⟩, .int .i64 3, .int .i64 0, .string ⟨#[122]⟩] 46) = W at *
  generalize w1.heap.size = N at *
  have AP := apply_yes p Ed.exS (some ⟨N + 1, 0, none⟩) Ed.exL 2 W V.rep (by decide) R Ed.ex_wf Ed.ex_chk
  rw [Ed.ex_app] at AP
  refine AP.mono ?_
  rintro r w2 ⟨q, rfl, hq, hb2⟩
  have V2 := Rp.var_new hq
  replace hb2 := Rp.below_up hb2 (Rp.below_al w2 (.cells #[.pointer q] 27))
  replace V := V.up hb2
  replace R := R.up hb2
  replace B := Rp.below_up B hb2
  replace v0 := V.cell
  clear hb2 AP hq
  go_wp2_with fail
  generalize w2.alloc (.cells #[.pointer q] 27) = W2 at *
  generalize w2.heap.size = M at *
  have BK := back_yes p Ed.exS (some ⟨N + 1, 0, none⟩) Ed.exL 2 W2 V.rep (by decide) R Ed.ex_wf Ed.ex_chk
  rw [Ed.ex_bk] at BK
  refine BK.mono ?_
  rintro r w3 ⟨a3, cap3, rfl, R3, hb3⟩
  replace V2 := V2.up hb3
  replace R := R.up hb3
  replace B := Rp.below_up B hb3
  replace v0 := V2.cell
  clear hb3 BK V
  go_wp2_with fail
  refine (text_s q ⟨#[97, 120, 121, 99, 122, 100]⟩ w3 V2.rep (by decide)).mono ?_
  rintro r w4 ⟨rfl, hb4⟩
  replace R := R.up hb4
  replace R3 := R3.up hb4
  replace B := Rp.below_up B hb4
  clear hb4 V2 v0
  go_wp2_with fail
  have R4 := Ed.row_pair w4 ⟨1, 2, ⟨#[98]⟩⟩ ⟨4, 1, ⟨#[]⟩⟩
  have hb5 := Rp.below_al w4 (.cells #[.int .i64 1, .int .i64 2, .string ⟨#[98]⟩, .int .i64 4, .int .i64 1, .string ⟨#[]⟩] 46)
  replace R := R.up hb5
  replace R3 := R3.up hb5
  replace B := Rp.below_up B hb5
  clear hb5
  generalize w4.alloc (.cells #[.int .i64 1, .int .i64 2, .string ⟨#[98]⟩, .int .i64 4, .int .i64 1, .string ⟨#[]⟩] 46) = W4 at *
  generalize w4.heap.size = L at *
  refine (refSame_yes a3 (some ⟨L, 0, none⟩) [⟨1, 2, ⟨#[98]⟩⟩, ⟨4, 1, ⟨#[]⟩⟩] cap3 2 W4 R3 R4 (by decide)).mono ?_
  rintro r w5 ⟨rfl, hb5⟩
  replace R := R.up hb5
  replace B := Rp.below_up B hb5
  clear hb5 R3 R4
  go_wp2_with fail
  have M1 := move_any (some ⟨N + 1, 0, none⟩) Ed.exL 2 4 3 false w5 R Ed.ex_wf Ed.ex_may (by decide) (by decide)
  rw [Ed.ex_m1] at M1
  refine M1.mono ?_
  rintro r w6 ⟨rfl, hb1⟩
  replace R := R.up hb1
  replace B := Rp.below_up B hb1
  clear hb1 M1
  go_wp2_with fail
  have M2 := move_any (some ⟨N + 1, 0, none⟩) Ed.exL 2 4 3 true w6 R Ed.ex_wf Ed.ex_may (by decide) (by decide)
  rw [Ed.ex_m2] at M2
  refine M2.mono ?_
  rintro r w7 ⟨rfl, hb2⟩
  replace R := R.up hb2
  replace B := Rp.below_up B hb2
  clear hb2 M2
  go_wp2_with fail
  have M3 := move_any (some ⟨N + 1, 0, none⟩) Ed.exL 2 4 2 false w7 R Ed.ex_wf Ed.ex_may (by decide) (by decide)
  rw [Ed.ex_m3] at M3
  refine M3.mono ?_
  rintro r w8 ⟨rfl, hb3⟩
  replace R := R.up hb3
  replace B := Rp.below_up B hb3
  clear hb3 M3
  go_wp2_with fail
  refine (diff_ex w8).mono ?_
  rintro r w9 ⟨rfl, hb9⟩
  replace B := Rp.below_up B hb9
  go_wp2_with fail
  go_ret
  exact ⟨by first | rfl | simp, B⟩
end Go.Proofs.Ytigibeioapkgiaa
