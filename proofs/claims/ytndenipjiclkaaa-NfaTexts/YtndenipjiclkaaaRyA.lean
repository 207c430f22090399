/- The program's reader of expressions: what need, pass, at, sign answer, walked. -/
import Derived.Test.YtndenipjiclkaaaRyM
import Derived.Test.YtndenipjiclkaaaRxC

import Derived.WalkLawsBesides
namespace Go.Proofs.Ytndenipjiclkaaa
set_option linter.unusedVariables false
set_option linter.unusedSimpArgs false
open Go.RowKit
/-- a text is given up -/
def Px.up (why : Int) : Ending := .panicked [{ v := .iface 127 (.agg #[.int .i64 why]), recovered := false }]
/-- the reader in block r: the signs that are left -/
structure Px.St (w : World) (r : Nat) (t : List Int) (big : Bool) : Prop where
  c0 : ∃ s, w.cell? ⟨r, 0, none⟩ = some (.string s) ∧ Px.Str s t
  c1 : w.cell? ⟨r, 1, none⟩ = some (.bool big)
  z0 : w.frozen? ⟨r, 0, none⟩ = false
  z1 : w.frozen? ⟨r, 1, none⟩ = false
  only : ∀ j v, w.cell? ⟨r, j, none⟩ = some v → j < 2
theorem Px.St.lt {w : World} {r : Nat} {t : List Int} {big : Bool} (h : Px.St w r t big) : r < w.heap.size := World.block_lt_of_cell? w _ h.c1
theorem Px.St.up {w w' : World} {r : Nat} {t : List Int} {big : Bool} (h : Px.St w r t big) (hb : Below w.heap.size w w') : Px.St w' r t big := by
  have hl := h.lt
  obtain ⟨s, h0, hs⟩ := h.c0
  exact ⟨⟨s, Bs.cell_up hb h0, hs⟩, Bs.cell_up hb h.c1, by rw [hb.frozen hl]; exact h.z0, by rw [hb.frozen hl]; exact h.z1, fun j v hv => h.only j v (by rw [← hb.cell (p := ⟨r, j, none⟩) hl]; exact hv)⟩
theorem Px.only_set {w : World} {r i : Nat} {u : Value} (h : ∀ j v, w.cell? ⟨r, j, none⟩ = some v → j < 2) (hi : i < 2) : ∀ j v, (w.setCell ⟨r, i, none⟩ u).cell? ⟨r, j, none⟩ = some v → j < 2 := fun j v hv => by
  by_cases e : i = j
  · omega
  · rw [World.cell?_setCell_other _ _ _ _ (by simp [e])] at hv
    exact h j v hv
theorem Px.St.text {w : World} {r : Nat} {t : List Int} {big : Bool} (h : Px.St w r t big) {s : ByteArray} {u : List Int} (hs : Px.Str s u) : Px.St (w.setCell ⟨r, 0, none⟩ (.string s)) r u big := by
  obtain ⟨⟨s0, c0, _⟩, c1, z0, z1, only⟩ := h
  refine ⟨⟨s, ?_, hs⟩, ?_, ?_, ?_, Px.only_set only (by omega)⟩ <;> simp [go_sem, c0, c1, z0, z1]
theorem Px.St.big {w : World} {r : Nat} {t : List Int} {big : Bool} (h : Px.St w r t big) (b : Bool) : Px.St (w.setCell ⟨r, 1, none⟩ (.bool b)) r t b := by
  obtain ⟨⟨s0, c0, hs⟩, c1, z0, z1, only⟩ := h
  refine ⟨⟨s0, ?_, hs⟩, ?_, ?_, ?_, Px.only_set only (by omega)⟩ <;> simp [go_sem, c0, c1, z0, z1]
theorem need_yes (why : Int) (w : World) : Calls Try.prog 68 #[.bool true, .int .i64 why] w fun e w' => e = .returned (.tuple #[]) ∧ w' = w := by
  go_enter Try.func68, Try.ntmps68
  go_wp2_with fail
  go_end0
  exact ⟨rfl, rfl⟩
theorem need_no (why : Int) (w : World) : Calls Try.prog 68 #[.bool false, .int .i64 why] w fun e w' => e = Px.up why ∧ w' = w := by
  go_enter Try.func68, Try.ntmps68
  go_wp2_with fail
  exact ⟨rfl, rfl, rfl⟩
theorem Px.empty {s : ByteArray} (h : s.size = 0) : s.toList.isEmpty = true := by
  rw [ByteArray.toList_eq, List.isEmpty_iff_length_eq_zero, Rn.len_data0]; exact h
theorem Px.not_empty {s : ByteArray} (h : 1 ≤ s.size) : s.toList.isEmpty = false := by
  rw [ByteArray.toList_eq, ← Bool.not_eq_true, List.isEmpty_iff_length_eq_zero, Rn.len_data0]; omega
/-- behind a sign, if it is the next one -/
def Px.passed (c : Int) (t : List Int) : List Int := if t.head? = some c then t.drop 1 else t
def Px.PassPost (w : World) (r : Nat) (t : List Int) (big : Bool) (c : Int) (e : Ending) (w' : World) : Prop := e = .returned (.bool (decide (t.head? = some c))) ∧ Px.St w' r (Px.passed c t) big ∧ w.grownBy w' (some r)
set_option maxRecDepth 100000 in
set_option maxHeartbeats 400000 in
theorem pass_any (r : Nat) (t : List Int) (big : Bool) (c : Nat) (hc : c < 128) (w : World) (h : Px.St w r t big) : Calls Try.prog 82 #[.pointer (some ⟨r, 0, none⟩), .int .u8 c] w (Px.PassPost w r t big c) := by
  have HS := Lib.hid h
  obtain ⟨⟨s, c0, hs⟩, c1, z0, z1, _⟩ := h
  have G := Lib.hid (Rx.grown_of r (Below.refl w.heap.size w))
  cases t with
  | nil =>
    have e0 := Px.empty hs.nil
    clear hs
    go_enter Try.func82, Try.ntmps82
    go_wp2_with fail
    go_ret
    exact ⟨by simp, by simpa [Px.passed] using HS.out, G.out⟩
  | cons n t =>
    have h1 := hs.len
    have e0 := Px.not_empty h1
    have hl := hs.max
    unfold maxLen at hl
    have HI := Lib.hid (hs.is h1 c hc)
    have HT := Lib.hid hs
    clear hs
    by_cases hn : n = c
    · have e1 : ((s[0].toNat : Int) != (c : Int)) = false := by have := HI.out.2 hn; simp; omega
      have HE := Lib.hid hn
      clear hn
      have hlo : Px.Str (s.extract 1 s.size) t := HT.out.low (by have := HE.out; omega)
      have HL := Lib.hid hlo
      clear hlo
      go_enter Try.func82, Try.ntmps82
      go_wp2_with fail
      go_ret
      exact ⟨by rw [HE.out]; simp, by rw [Px.passed, if_pos (by rw [HE.out]; rfl)]; exact HS.out.text HL.out, Rx.grown_set G.out _ _⟩
    · have e1 : ((s[0].toNat : Int) != (c : Int)) = true := by
        have := mt HI.out.1 hn
        simp; omega
      have HE := Lib.hid hn
      clear hn
      go_enter Try.func82, Try.ntmps82
      go_wp2_with fail
      go_ret
      exact ⟨by simp [HE.out], by rw [Px.passed, if_neg (by simp [HE.out])]; exact HS.out, G.out⟩
end Go.Proofs.Ytndenipjiclkaaa
