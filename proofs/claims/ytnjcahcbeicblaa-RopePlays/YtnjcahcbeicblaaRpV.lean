/- What 'same' answers, walked: a rope that is a text is the same as it. -/
import Derived.Test.YtnjcahcbeicblaaRpU
namespace Go.Proofs.Ytnjcahcbeicblaa
set_option linter.unusedVariables false
set_option linter.unusedSimpArgs false
open Go.RowKit
open Rp (Tr)
/-- the rope p, boxed at block c, is the text s, of height n -/
structure Rp.Here (w : World) (c : Nat) (p : Option Addr) (s : ByteArray) (n : Nat) (v : World) : Prop where
  cell : v.cell? ⟨c, 0, none⟩ = some (.pointer p)
  rep : Rp.Rep v p s.data.toList
  ht : Rp.HtOf v p n
  be : Below w.heap.size w v
theorem Rp.Here.up {w v v' : World} {c : Nat} {p : Option Addr} {s : ByteArray} {n : Nat} (h : Rp.Here w c p s n v) (hb : Below v.heap.size v v') : Rp.Here w c p s n v' :=
  ⟨Rp.cell_up hb h.cell, h.rep.up hb, h.ht.up hb, Rp.below_up h.be hb⟩
theorem text_s (p : Option Addr) (s : ByteArray) (w : World) (hp : Rp.Rep w p s.data.toList) (hs : s.size ≤ 1000000) : Calls Try.prog 14 #[.agg #[.pointer p]] w (Rp.TPost w s) := by
  have := text_any p s.data.toList w hp (by simpa using hs)
  rw [Rp.ofL_self] at this; exact this
theorem len_s (p : Option Addr) (s : ByteArray) (w : World) (hp : Rp.Rep w p s.data.toList) : Calls Try.prog 16 #[.agg #[.pointer p]] w (Rp.IPost w s.size) := by
  have := len_any p s.data.toList w hp
  rw [Rn.len_data0] at this; exact this
theorem at_s (p : Option Addr) (s : ByteArray) (k : Nat) (w : World) (hp : Rp.Rep w p s.data.toList) (hs : s.size ≤ 1000000) (h : k < s.size) : Calls Try.prog 45 #[.agg #[.pointer p], .int .i64 k] w (Rp.AtPost w (s[k].toNat) true) := by
  have := at_yes p s.data.toList k w hp (by simpa using hs) (by simpa using h)
  have e : s.data.toList.getD k 0 = s[k] := by simp [h]; rfl
  rw [e] at this; exact this
theorem at_none (p : Option Addr) (s : ByteArray) (i : Int) (w : World) (hp : Rp.Rep w p s.data.toList) (h : i < 0 ∨ (s.size : Int) ≤ i) : Calls Try.prog 45 #[.agg #[.pointer p], .int .i64 i] w (Rp.AtPost w 0 false) :=
  at_no p s.data.toList i w hp (by simpa using h)
set_option maxRecDepth 100000 in
set_option maxHeartbeats 1000000 in
theorem same_neg (p : Option Addr) (s : ByteArray) (n : Nat) (w : World) (hp : Rp.Rep w p s.data.toList) (hh : Rp.HtOf w p n) (hs : s.size ≤ 1000000) (hn : n ≤ 4 + 2 * Rp.bits s.size) (i : Int) (h : i < 0) : Calls Try.prog 18 #[.agg #[.pointer p], .string s, .int .i64 i] w (Rp.BPost w true) := by
  have hl : s.data.toList.length ≤ 1000000 := by simpa using hs
  have dn : decide (n ≤ 4 + 2 * Rp.bits s.size) = true := by simp; omega
  have hz : s.toList.isEmpty = s.toList.isEmpty := rfl
  clear hz
  have d1 : decide (0 ≤ i) = false := by simp; omega
  have H : Rp.Here w w.heap.size p s n (w.alloc (.cells #[.pointer p] 26)) := ⟨by simp [go_sem], hp.al _, hh.up (Rp.below_al _ _), Rp.below_al _ _⟩
  go_enter Try.func18, Try.ntmps18
  go_wp2_with fail
  refine (at_none p s i _ H.rep (.inl h)).mono ?_
  rintro e v1 ⟨rfl, hb1⟩
  replace H := H.up hb1
  have bx := H.cell
  go_wp2_with fail
  refine (line_no p s.data.toList i _ H.rep (.inl h)).mono ?_
  rintro e v2 ⟨rfl, hb2⟩
  replace H := H.up hb2
  replace bx := H.cell
  go_wp2_with fail
  refine (text_s p s _ H.rep hs).mono ?_
  rintro e v3 ⟨rfl, hb3⟩
  replace H := H.up hb3
  replace bx := H.cell
  go_wp2_with fail
  refine (len_s p s _ H.rep).mono ?_
  rintro e v4 ⟨rfl, hb4⟩
  replace H := H.up hb4
  replace bx := H.cell
  go_wp2_with fail
  refine (lines_any p s.data.toList _ _ H.rep hl).mono ?_
  rintro e v5 ⟨rfl, hb5⟩
  replace H := H.up hb5
  replace bx := H.cell
  go_wp2_with fail
  refine (refLines_any s _ _ hs).mono ?_
  rintro e w' ⟨rfl, rfl⟩
  go_wp2_with fail
  refine (signs_any p s.data.toList _ _ H.rep hl).mono ?_
  rintro e v6 ⟨rfl, hb6⟩
  replace H := H.up hb6
  replace bx := H.cell
  go_wp2_with fail
  refine (refSigns_any s _ _ hs).mono ?_
  rintro e w' ⟨rfl, rfl⟩
  go_wp2_with fail
  refine (height_any p n _ H.ht).mono ?_
  rintro e v7 ⟨rfl, hb7⟩
  replace H := H.up hb7
  replace bx := H.cell
  go_wp2_with fail
  refine (refBound_any s.size _ hs).mono ?_
  rintro e w' ⟨rfl, rfl⟩
  go_wp2_with fail
  go_ret
  exact ⟨by first | rfl | (simp [*]; done) | (simp [*]; omega), H.be⟩
set_option maxRecDepth 100000 in
set_option maxHeartbeats 1000000 in
theorem same_in0 (p : Option Addr) (s : ByteArray) (n : Nat) (w : World) (hp : Rp.Rep w p s.data.toList) (hh : Rp.HtOf w p n) (hs : s.size ≤ 1000000) (hn : n ≤ 4 + 2 * Rp.bits s.size) (h : 0 < s.size) : Calls Try.prog 18 #[.agg #[.pointer p], .string s, .int .i64 0] w (Rp.BPost w true) := by
  have hl : s.data.toList.length ≤ 1000000 := by simpa using hs
  have dn : decide (n ≤ 4 + 2 * Rp.bits s.size) = true := by simp; omega
  have hz : s.toList.isEmpty = s.toList.isEmpty := rfl
  clear hz
  have d2 : decide (0 < s.size) = true := decide_eq_true (by omega)
  have H : Rp.Here w w.heap.size p s n (w.alloc (.cells #[.pointer p] 26)) := ⟨by simp [go_sem], hp.al _, hh.up (Rp.below_al _ _), Rp.below_al _ _⟩
  go_enter Try.func18, Try.ntmps18
  go_wp2_with fail
  refine (at_s p s (0 : Nat) _ H.rep hs h).mono ?_
  rintro e v1 ⟨rfl, hb1⟩
  replace H := H.up hb1
  have bx := H.cell
  go_wp2_with fail
  refine (line_zero p _).mono ?_
  rintro e v2 ⟨rfl, hb2⟩
  replace H := H.up hb2
  replace bx := H.cell
  go_wp2_with fail
  refine (refLine_zero s _).mono ?_
  rintro e w' ⟨rfl, rfl⟩
  go_wp2_with fail
  refine (text_s p s _ H.rep hs).mono ?_
  rintro e v3 ⟨rfl, hb3⟩
  replace H := H.up hb3
  replace bx := H.cell
  go_wp2_with fail
  refine (len_s p s _ H.rep).mono ?_
  rintro e v4 ⟨rfl, hb4⟩
  replace H := H.up hb4
  replace bx := H.cell
  go_wp2_with fail
  refine (lines_any p s.data.toList _ _ H.rep hl).mono ?_
  rintro e v5 ⟨rfl, hb5⟩
  replace H := H.up hb5
  replace bx := H.cell
  go_wp2_with fail
  refine (refLines_any s _ _ hs).mono ?_
  rintro e w' ⟨rfl, rfl⟩
  go_wp2_with fail
  refine (signs_any p s.data.toList _ _ H.rep hl).mono ?_
  rintro e v6 ⟨rfl, hb6⟩
  replace H := H.up hb6
  replace bx := H.cell
  go_wp2_with fail
  refine (refSigns_any s _ _ hs).mono ?_
  rintro e w' ⟨rfl, rfl⟩
  go_wp2_with fail
  refine (height_any p n _ H.ht).mono ?_
  rintro e v7 ⟨rfl, hb7⟩
  replace H := H.up hb7
  replace bx := H.cell
  go_wp2_with fail
  refine (refBound_any s.size _ hs).mono ?_
  rintro e w' ⟨rfl, rfl⟩
  go_wp2_with fail
  go_ret
  exact ⟨by first | rfl | (simp [*]; done) | (simp [*]; omega), H.be⟩
set_option maxRecDepth 100000 in
set_option maxHeartbeats 1000000 in
theorem same_in1 (p : Option Addr) (s : ByteArray) (n : Nat) (w : World) (hp : Rp.Rep w p s.data.toList) (hh : Rp.HtOf w p n) (hs : s.size ≤ 1000000) (hn : n ≤ 4 + 2 * Rp.bits s.size) (k : Nat) (h0 : 0 < k) (hk : k ≤ Rp.lns s.data.toList) (h : k < s.size) : Calls Try.prog 18 #[.agg #[.pointer p], .string s, .int .i64 k] w (Rp.BPost w true) := by
  have hl : s.data.toList.length ≤ 1000000 := by simpa using hs
  have dn : decide (n ≤ 4 + 2 * Rp.bits s.size) = true := by simp; omega
  have hz : s.toList.isEmpty = s.toList.isEmpty := rfl
  clear hz
  have d2 : decide (k < s.size) = true := decide_eq_true (by omega)
  have kb : k ≤ 1000000 := by have := Rp.lns_le s.data.toList; omega
  have H : Rp.Here w w.heap.size p s n (w.alloc (.cells #[.pointer p] 26)) := ⟨by simp [go_sem], hp.al _, hh.up (Rp.below_al _ _), Rp.below_al _ _⟩
  go_enter Try.func18, Try.ntmps18
  go_wp2_with fail
  refine (at_s p s k _ H.rep hs h).mono ?_
  rintro e v1 ⟨rfl, hb1⟩
  replace H := H.up hb1
  have bx := H.cell
  go_wp2_with fail
  refine (line_yes p s.data.toList k _ H.rep hl h0 hk).mono ?_
  rintro e v2 ⟨q, hq, rfl, hb2⟩
  replace H := H.up hb2
  replace bx := H.cell
  go_wp2_with fail
  refine (refLine_at s k q _ hs h0 hq).mono ?_
  rintro e w' ⟨rfl, rfl⟩
  go_wp2_with fail
  refine (text_s p s _ H.rep hs).mono ?_
  rintro e v3 ⟨rfl, hb3⟩
  replace H := H.up hb3
  replace bx := H.cell
  go_wp2_with fail
  refine (len_s p s _ H.rep).mono ?_
  rintro e v4 ⟨rfl, hb4⟩
  replace H := H.up hb4
  replace bx := H.cell
  go_wp2_with fail
  refine (lines_any p s.data.toList _ _ H.rep hl).mono ?_
  rintro e v5 ⟨rfl, hb5⟩
  replace H := H.up hb5
  replace bx := H.cell
  go_wp2_with fail
  refine (refLines_any s _ _ hs).mono ?_
  rintro e w' ⟨rfl, rfl⟩
  go_wp2_with fail
  refine (signs_any p s.data.toList _ _ H.rep hl).mono ?_
  rintro e v6 ⟨rfl, hb6⟩
  replace H := H.up hb6
  replace bx := H.cell
  go_wp2_with fail
  refine (refSigns_any s _ _ hs).mono ?_
  rintro e w' ⟨rfl, rfl⟩
  go_wp2_with fail
  refine (height_any p n _ H.ht).mono ?_
  rintro e v7 ⟨rfl, hb7⟩
  replace H := H.up hb7
  replace bx := H.cell
  go_wp2_with fail
  refine (refBound_any s.size _ hs).mono ?_
  rintro e w' ⟨rfl, rfl⟩
  go_wp2_with fail
  go_ret
  exact ⟨by first | rfl | (simp [*]; done) | (simp [*]; omega), H.be⟩
set_option maxRecDepth 100000 in
set_option maxHeartbeats 1000000 in
theorem same_in2 (p : Option Addr) (s : ByteArray) (n : Nat) (w : World) (hp : Rp.Rep w p s.data.toList) (hh : Rp.HtOf w p n) (hs : s.size ≤ 1000000) (hn : n ≤ 4 + 2 * Rp.bits s.size) (k : Nat) (hk : Rp.lns s.data.toList < k) (h : k < s.size) : Calls Try.prog 18 #[.agg #[.pointer p], .string s, .int .i64 k] w (Rp.BPost w true) := by
  have hl : s.data.toList.length ≤ 1000000 := by simpa using hs
  have dn : decide (n ≤ 4 + 2 * Rp.bits s.size) = true := by simp; omega
  have hz : s.toList.isEmpty = s.toList.isEmpty := rfl
  clear hz
  have d2 : decide (k < s.size) = true := decide_eq_true (by omega)
  have k0 : 0 < k := by omega
  have H : Rp.Here w w.heap.size p s n (w.alloc (.cells #[.pointer p] 26)) := ⟨by simp [go_sem], hp.al _, hh.up (Rp.below_al _ _), Rp.below_al _ _⟩
  go_enter Try.func18, Try.ntmps18
  go_wp2_with fail
  refine (at_s p s k _ H.rep hs h).mono ?_
  rintro e v1 ⟨rfl, hb1⟩
  replace H := H.up hb1
  have bx := H.cell
  go_wp2_with fail
  refine (line_no p s.data.toList k _ H.rep (.inr (by omega))).mono ?_
  rintro e v2 ⟨rfl, hb2⟩
  replace H := H.up hb2
  replace bx := H.cell
  go_wp2_with fail
  refine (refLine_none s k _ hs hk).mono ?_
  rintro e w' ⟨rfl, rfl⟩
  go_wp2_with fail
  refine (text_s p s _ H.rep hs).mono ?_
  rintro e v3 ⟨rfl, hb3⟩
  replace H := H.up hb3
  replace bx := H.cell
  go_wp2_with fail
  refine (len_s p s _ H.rep).mono ?_
  rintro e v4 ⟨rfl, hb4⟩
  replace H := H.up hb4
  replace bx := H.cell
  go_wp2_with fail
  refine (lines_any p s.data.toList _ _ H.rep hl).mono ?_
  rintro e v5 ⟨rfl, hb5⟩
  replace H := H.up hb5
  replace bx := H.cell
  go_wp2_with fail
  refine (refLines_any s _ _ hs).mono ?_
  rintro e w' ⟨rfl, rfl⟩
  go_wp2_with fail
  refine (signs_any p s.data.toList _ _ H.rep hl).mono ?_
  rintro e v6 ⟨rfl, hb6⟩
  replace H := H.up hb6
  replace bx := H.cell
  go_wp2_with fail
  refine (refSigns_any s _ _ hs).mono ?_
  rintro e w' ⟨rfl, rfl⟩
  go_wp2_with fail
  refine (height_any p n _ H.ht).mono ?_
  rintro e v7 ⟨rfl, hb7⟩
  replace H := H.up hb7
  replace bx := H.cell
  go_wp2_with fail
  refine (refBound_any s.size _ hs).mono ?_
  rintro e w' ⟨rfl, rfl⟩
  go_wp2_with fail
  go_ret
  exact ⟨by first | rfl | (simp [*]; done) | (simp [*]; omega), H.be⟩
set_option maxRecDepth 100000 in
set_option maxHeartbeats 1000000 in
theorem same_out0 (p : Option Addr) (s : ByteArray) (n : Nat) (w : World) (hp : Rp.Rep w p s.data.toList) (hh : Rp.HtOf w p n) (hs : s.size ≤ 1000000) (hn : n ≤ 4 + 2 * Rp.bits s.size) (h : s.size ≤ 0) : Calls Try.prog 18 #[.agg #[.pointer p], .string s, .int .i64 0] w (Rp.BPost w true) := by
  have hl : s.data.toList.length ≤ 1000000 := by simpa using hs
  have dn : decide (n ≤ 4 + 2 * Rp.bits s.size) = true := by simp; omega
  have hz : s.toList.isEmpty = s.toList.isEmpty := rfl
  clear hz
  have d2 : decide (0 < s.size) = false := decide_eq_false (by omega)
  have H : Rp.Here w w.heap.size p s n (w.alloc (.cells #[.pointer p] 26)) := ⟨by simp [go_sem], hp.al _, hh.up (Rp.below_al _ _), Rp.below_al _ _⟩
  go_enter Try.func18, Try.ntmps18
  go_wp2_with fail
  refine (at_none p s 0 _ H.rep (.inr (by omega))).mono ?_
  rintro e v1 ⟨rfl, hb1⟩
  replace H := H.up hb1
  have bx := H.cell
  go_wp2_with fail
  refine (line_zero p _).mono ?_
  rintro e v2 ⟨rfl, hb2⟩
  replace H := H.up hb2
  replace bx := H.cell
  go_wp2_with fail
  refine (refLine_zero s _).mono ?_
  rintro e w' ⟨rfl, rfl⟩
  go_wp2_with fail
  refine (text_s p s _ H.rep hs).mono ?_
  rintro e v3 ⟨rfl, hb3⟩
  replace H := H.up hb3
  replace bx := H.cell
  go_wp2_with fail
  refine (len_s p s _ H.rep).mono ?_
  rintro e v4 ⟨rfl, hb4⟩
  replace H := H.up hb4
  replace bx := H.cell
  go_wp2_with fail
  refine (lines_any p s.data.toList _ _ H.rep hl).mono ?_
  rintro e v5 ⟨rfl, hb5⟩
  replace H := H.up hb5
  replace bx := H.cell
  go_wp2_with fail
  refine (refLines_any s _ _ hs).mono ?_
  rintro e w' ⟨rfl, rfl⟩
  go_wp2_with fail
  refine (signs_any p s.data.toList _ _ H.rep hl).mono ?_
  rintro e v6 ⟨rfl, hb6⟩
  replace H := H.up hb6
  replace bx := H.cell
  go_wp2_with fail
  refine (refSigns_any s _ _ hs).mono ?_
  rintro e w' ⟨rfl, rfl⟩
  go_wp2_with fail
  refine (height_any p n _ H.ht).mono ?_
  rintro e v7 ⟨rfl, hb7⟩
  replace H := H.up hb7
  replace bx := H.cell
  go_wp2_with fail
  refine (refBound_any s.size _ hs).mono ?_
  rintro e w' ⟨rfl, rfl⟩
  go_wp2_with fail
  go_ret
  exact ⟨by first | rfl | (simp [*]; done) | (simp [*]; omega), H.be⟩
set_option maxRecDepth 100000 in
set_option maxHeartbeats 1000000 in
theorem same_out1 (p : Option Addr) (s : ByteArray) (n : Nat) (w : World) (hp : Rp.Rep w p s.data.toList) (hh : Rp.HtOf w p n) (hs : s.size ≤ 1000000) (hn : n ≤ 4 + 2 * Rp.bits s.size) (k : Nat) (h0 : 0 < k) (hk : k ≤ Rp.lns s.data.toList) (h : s.size ≤ k) : Calls Try.prog 18 #[.agg #[.pointer p], .string s, .int .i64 k] w (Rp.BPost w true) := by
  have hl : s.data.toList.length ≤ 1000000 := by simpa using hs
  have dn : decide (n ≤ 4 + 2 * Rp.bits s.size) = true := by simp; omega
  have hz : s.toList.isEmpty = s.toList.isEmpty := rfl
  clear hz
  have d2 : decide (k < s.size) = false := decide_eq_false (by omega)
  have kb : k ≤ 1000000 := by have := Rp.lns_le s.data.toList; omega
  have H : Rp.Here w w.heap.size p s n (w.alloc (.cells #[.pointer p] 26)) := ⟨by simp [go_sem], hp.al _, hh.up (Rp.below_al _ _), Rp.below_al _ _⟩
  go_enter Try.func18, Try.ntmps18
  go_wp2_with fail
  refine (at_none p s k _ H.rep (.inr (by omega))).mono ?_
  rintro e v1 ⟨rfl, hb1⟩
  replace H := H.up hb1
  have bx := H.cell
  go_wp2_with fail
  refine (line_yes p s.data.toList k _ H.rep hl h0 hk).mono ?_
  rintro e v2 ⟨q, hq, rfl, hb2⟩
  replace H := H.up hb2
  replace bx := H.cell
  go_wp2_with fail
  refine (refLine_at s k q _ hs h0 hq).mono ?_
  rintro e w' ⟨rfl, rfl⟩
  go_wp2_with fail
  refine (text_s p s _ H.rep hs).mono ?_
  rintro e v3 ⟨rfl, hb3⟩
  replace H := H.up hb3
  replace bx := H.cell
  go_wp2_with fail
  refine (len_s p s _ H.rep).mono ?_
  rintro e v4 ⟨rfl, hb4⟩
  replace H := H.up hb4
  replace bx := H.cell
  go_wp2_with fail
  refine (lines_any p s.data.toList _ _ H.rep hl).mono ?_
  rintro e v5 ⟨rfl, hb5⟩
  replace H := H.up hb5
  replace bx := H.cell
  go_wp2_with fail
  refine (refLines_any s _ _ hs).mono ?_
  rintro e w' ⟨rfl, rfl⟩
  go_wp2_with fail
  refine (signs_any p s.data.toList _ _ H.rep hl).mono ?_
  rintro e v6 ⟨rfl, hb6⟩
  replace H := H.up hb6
  replace bx := H.cell
  go_wp2_with fail
  refine (refSigns_any s _ _ hs).mono ?_
  rintro e w' ⟨rfl, rfl⟩
  go_wp2_with fail
  refine (height_any p n _ H.ht).mono ?_
  rintro e v7 ⟨rfl, hb7⟩
  replace H := H.up hb7
  replace bx := H.cell
  go_wp2_with fail
  refine (refBound_any s.size _ hs).mono ?_
  rintro e w' ⟨rfl, rfl⟩
  go_wp2_with fail
  go_ret
  exact ⟨by first | rfl | (simp [*]; done) | (simp [*]; omega), H.be⟩
set_option maxRecDepth 100000 in
set_option maxHeartbeats 1000000 in
theorem same_out2 (p : Option Addr) (s : ByteArray) (n : Nat) (w : World) (hp : Rp.Rep w p s.data.toList) (hh : Rp.HtOf w p n) (hs : s.size ≤ 1000000) (hn : n ≤ 4 + 2 * Rp.bits s.size) (k : Nat) (hk : Rp.lns s.data.toList < k) (h : s.size ≤ k) : Calls Try.prog 18 #[.agg #[.pointer p], .string s, .int .i64 k] w (Rp.BPost w true) := by
  have hl : s.data.toList.length ≤ 1000000 := by simpa using hs
  have dn : decide (n ≤ 4 + 2 * Rp.bits s.size) = true := by simp; omega
  have hz : s.toList.isEmpty = s.toList.isEmpty := rfl
  clear hz
  have d2 : decide (k < s.size) = false := decide_eq_false (by omega)
  have k0 : 0 < k := by omega
  have H : Rp.Here w w.heap.size p s n (w.alloc (.cells #[.pointer p] 26)) := ⟨by simp [go_sem], hp.al _, hh.up (Rp.below_al _ _), Rp.below_al _ _⟩
  go_enter Try.func18, Try.ntmps18
  go_wp2_with fail
  refine (at_none p s k _ H.rep (.inr (by omega))).mono ?_
  rintro e v1 ⟨rfl, hb1⟩
  replace H := H.up hb1
  have bx := H.cell
  go_wp2_with fail
  refine (line_no p s.data.toList k _ H.rep (.inr (by omega))).mono ?_
  rintro e v2 ⟨rfl, hb2⟩
  replace H := H.up hb2
  replace bx := H.cell
  go_wp2_with fail
  refine (refLine_none s k _ hs hk).mono ?_
  rintro e w' ⟨rfl, rfl⟩
  go_wp2_with fail
  refine (text_s p s _ H.rep hs).mono ?_
  rintro e v3 ⟨rfl, hb3⟩
  replace H := H.up hb3
  replace bx := H.cell
  go_wp2_with fail
  refine (len_s p s _ H.rep).mono ?_
  rintro e v4 ⟨rfl, hb4⟩
  replace H := H.up hb4
  replace bx := H.cell
  go_wp2_with fail
  refine (lines_any p s.data.toList _ _ H.rep hl).mono ?_
  rintro e v5 ⟨rfl, hb5⟩
  replace H := H.up hb5
  replace bx := H.cell
  go_wp2_with fail
  refine (refLines_any s _ _ hs).mono ?_
  rintro e w' ⟨rfl, rfl⟩
  go_wp2_with fail
  refine (signs_any p s.data.toList _ _ H.rep hl).mono ?_
  rintro e v6 ⟨rfl, hb6⟩
  replace H := H.up hb6
  replace bx := H.cell
  go_wp2_with fail
  refine (refSigns_any s _ _ hs).mono ?_
  rintro e w' ⟨rfl, rfl⟩
  go_wp2_with fail
  refine (height_any p n _ H.ht).mono ?_
  rintro e v7 ⟨rfl, hb7⟩
  replace H := H.up hb7
  replace bx := H.cell
  go_wp2_with fail
  refine (refBound_any s.size _ hs).mono ?_
  rintro e w' ⟨rfl, rfl⟩
  go_wp2_with fail
  go_ret
  exact ⟨by first | rfl | (simp [*]; done) | (simp [*]; omega), H.be⟩
theorem same_any (p : Option Addr) (s : ByteArray) (n : Nat) (w : World) (hp : Rp.Rep w p s.data.toList) (hh : Rp.HtOf w p n) (hs : s.size ≤ 1000000) (hn : n ≤ 4 + 2 * Rp.bits s.size) (i : Int) : Calls Try.prog 18 #[.agg #[.pointer p], .string s, .int .i64 i] w (Rp.BPost w true) := by
  by_cases h : i < 0
  · exact same_neg p s n w hp hh hs hn i h
  obtain ⟨k, rfl⟩ := Int.eq_ofNat_of_zero_le (Int.not_lt.1 h)
  by_cases h1 : k < s.size
  · by_cases h2 : k = 0
    · subst h2; exact same_in0 p s n w hp hh hs hn h1
    · by_cases h3 : k ≤ Rp.lns s.data.toList
      · exact same_in1 p s n w hp hh hs hn k (by omega) h3 h1
      · exact same_in2 p s n w hp hh hs hn k (by omega) h1
  · by_cases h2 : k = 0
    · subst h2; exact same_out0 p s n w hp hh hs hn (by omega)
    · by_cases h3 : k ≤ Rp.lns s.data.toList
      · exact same_out1 p s n w hp hh hs hn k (by omega) h3 (by omega)
      · exact same_out2 p s n w hp hh hs hn k (by omega) (by omega)
end Go.Proofs.Ytnjcahcbeicblaa
