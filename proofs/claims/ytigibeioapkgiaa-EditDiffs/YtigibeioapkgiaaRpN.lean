/- What 'Split' answers, walked. -/
import Derived.Test.YtigibeioapkgiaaRpL
namespace Go.Proofs.Ytigibeioapkgiaa
set_option linter.unusedVariables false
set_option linter.unusedSimpArgs false
open Go.RowKit
open Rp (Tr)
/-- two ropes and the number n are answered -/
def Rp.TwoPost (w : World) (l m : List UInt8) (n : Int) (e : Ending) (w' : World) : Prop := ∃ r q, e = .returned (.tuple #[.agg #[.pointer r], .agg #[.pointer q], .int .i64 n]) ∧ Rp.Rep w' r l ∧ Rp.Rep w' q m ∧ Below w.heap.size w w'
theorem Rp.below_al3 (w : World) (a b c : Obj) : Below w.heap.size w (((w.alloc a).alloc b).alloc c) := (((Below.refl _ _).alloc (Nat.le_refl _) _).alloc (by simp) _).alloc (by simp; omega) _
theorem Rp.tk_left (l : List UInt8) (k : Nat) (h : k ≤ l.length) : Rp.tk l k l.length = l.take k := by
  unfold Rp.tk
  split
  · simp
  · rw [List.take_of_length_le (by omega)]
theorem Rp.tk_right (l : List UInt8) (k : Nat) : Rp.tk l 0 k = l.drop k := by
  unfold Rp.tk
  split
  · simp
  · have : k = 0 := by omega
    subst this; simp
theorem Rp.frz_up {w w1 : World} (hb : Below w.heap.size w w1) {a : Addr} {v : Value} (h : w.cell? a = some v) (hf : w.frozen? a = false) : w1.frozen? a = false := by rw [hb.frozen (World.block_lt_of_cell? w _ h)]; exact hf
theorem Rp.frz_dr {w : World} {a : Addr} (hf : w.frozen? a = false) : w.drew.frozen? a = false := hf
set_option maxHeartbeats 400000 in
theorem split_no (p : Option Addr) (l : List UInt8) (k : Int) (w : World) (hp : Rp.Rep w p l) (h : Rp.spanB l.length k k = false) : Calls Try.prog 32 #[.agg #[.pointer p], .int .i64 k] w (Rp.TwoPost w [] [] 3) := by
  go_enter Try.func32, Try.ntmps32
  go_wp2_with fail
  refine (holds_any p l k k _ (((hp.al _).al _).al _)).mono ?_
  rintro e w1 ⟨rfl, hb1⟩
  have hc : w1.cell? ⟨w.heap.size + 1, 0, none⟩ = some (.pointer none) := by rw [hb1.cell (by simp [go_sem])]; simp [go_sem]
  have hf : w1.frozen? ⟨w.heap.size + 1, 0, none⟩ = false := by rw [hb1.frozen (by simp [go_sem])]; simp [go_sem]
  have hc2 : w1.cell? ⟨w.heap.size + 1 + 1, 0, none⟩ = some (.pointer none) := by rw [hb1.cell (by simp [go_sem])]; simp [go_sem]
  have hf2 : w1.frozen? ⟨w.heap.size + 1 + 1, 0, none⟩ = false := by rw [hb1.frozen (by simp [go_sem])]; simp [go_sem]
  go_wp2_with fail
  exact bodyPost_ret (v := .tuple #[.agg #[.pointer none], .agg #[.pointer none], .int .i64 3]) (by simp [results, Try.results32, go_sem, hc, hc2]) rfl ⟨none, none, rfl, Rp.Rep.none _, Rp.Rep.none _, (((Rp.below_al3 _ _ _ _).trans (hb1.mono (by simp [go_sem]; omega))).setCell (by simp) _).setCell (by simp; omega) _⟩
set_option maxHeartbeats 1000000 in
theorem split_yes (p : Option Addr) (l : List UInt8) (k : Nat) (w : World) (hp : Rp.Rep w p l) (hl : l.length ≤ 1000000) (hk : k ≤ l.length) : Calls Try.prog 32 #[.agg #[.pointer p], .int .i64 k] w (Rp.TwoPost w (l.take k) (l.drop k) 0) := by
  have h : Rp.spanB l.length k k = true := by simp [Rp.spanB]; omega
  have T1 := Lib.hid (Rp.tk_left l k hk)
  have T2 := Lib.hid (Rp.tk_right l k)
  go_enter Try.func32, Try.ntmps32
  go_wp2_with fail
  refine (holds_any p l k k _ (((hp.al _).al _).al _)).mono ?_
  rintro e w1 ⟨rfl, hb1⟩
  have hx : w1.cell? ⟨w.heap.size, 0, none⟩ = some (.pointer p) := by rw [hb1.cell (by simp [go_sem])]; simp [go_sem]
  have hc : w1.cell? ⟨w.heap.size + 1, 0, none⟩ = some (.pointer none) := by rw [hb1.cell (by simp [go_sem])]; simp [go_sem]
  have hf : w1.frozen? ⟨w.heap.size + 1, 0, none⟩ = false := by rw [hb1.frozen (by simp [go_sem])]; simp [go_sem]
  have hc2 : w1.cell? ⟨w.heap.size + 1 + 1, 0, none⟩ = some (.pointer none) := by rw [hb1.cell (by simp [go_sem])]; simp [go_sem]
  have hf2 : w1.frozen? ⟨w.heap.size + 1 + 1, 0, none⟩ = false := by rw [hb1.frozen (by simp [go_sem])]; simp [go_sem]
  have hB1 : Below w.heap.size w w1 := (Rp.below_al3 _ _ _ _).trans (hb1.mono (by simp [go_sem]; omega))
  have hp1 : Rp.Rep w1 p l := hp.up hB1
  have z1 : w.heap.size + 1 < w1.heap.size := by have := hb1.size; simp [go_sem] at this; omega
  have z2 : w.heap.size + 1 + 1 < w1.heap.size := by have := hb1.size; simp [go_sem] at this; omega
  have n1 : w.heap.size + 1 ≠ w.heap.size := by omega
  have n2 : w.heap.size + 1 + 1 ≠ w.heap.size := by omega
  have n3 : w.heap.size + 1 + 1 ≠ w.heap.size + 1 := by omega
  have m1 : w.heap.size ≤ w.heap.size + 1 := by omega
  have m2 : w.heap.size ≤ w.heap.size + 1 + 1 := by omega
  clear hb1
  go_wp2_with fail
  generalize w.heap.size + 1 + 1 = N2 at *
  generalize w.heap.size + 1 = N1 at *
  go_region_held3 (fun v => v.cell? ⟨w.heap.size, 0, none⟩ = some (.pointer p))
    (first
      | (with_reducible (refine Rp.cell_dr ?_; assumption))
      | (with_reducible (refine Rp.cell_up hb4 ?_; assumption))
      | (with_reducible (refine Rp.cell_up hb3 ?_; assumption))
      | (with_reducible (refine Rp.cell_up hb2 ?_; assumption))
      | (with_reducible (refine Rp.cell_set ?_ ?_ <;> assumption)))
    (first
      | (go_at_call 14; refine (len_any p l _ (Rp.Rep.dr hp1)).mono ?_; rintro e w2 ⟨rfl, hb2⟩; have hp2 := (Rp.Rep.dr hp1).up hb2)
      | (go_at_call_of 50 (Value.int .i64 0); refine (take_any p 0 k l _ hp3 hl (by omega) (by omega) (by omega) (by omega)).mono ?_; rintro e w4 ⟨r2, rfl, hr2, hb4⟩; have hr1' := hr1.up hb4; have k1 := Rp.cell_up hb4 (Rp.cell_up hb3 (Rp.cell_up hb2 (Rp.cell_dr hc))); have k2 := Rp.cell_up hb4 (Rp.cell_up hb3 (Rp.cell_up hb2 (Rp.cell_dr hc2))); have f1 := Rp.frz_up hb4 (Rp.cell_up hb3 (Rp.cell_up hb2 (Rp.cell_dr hc))) (Rp.frz_up hb3 (Rp.cell_up hb2 (Rp.cell_dr hc)) (Rp.frz_up hb2 (Rp.cell_dr hc) (Rp.frz_dr hf))); have f2 := Rp.frz_up hb4 (Rp.cell_up hb3 (Rp.cell_up hb2 (Rp.cell_dr hc2))) (Rp.frz_up hb3 (Rp.cell_up hb2 (Rp.cell_dr hc2)) (Rp.frz_up hb2 (Rp.cell_dr hc2) (Rp.frz_dr hf2))))
      | (go_at_call 50; refine (take_any p k l.length l _ hp2 hl (by omega) (by omega) (by omega) (by omega)).mono ?_; rintro e w3 ⟨r1, rfl, hr1, hb3⟩; have hp3 := hp2.up hb3))
  all_goals
    go_wp2_with fail
    rw [T1.out] at hr1'
    rw [T2.out] at hr2
    have k2' := Rp.cell_set (p := ⟨N1, 0, none⟩) (u := .pointer r1) k2 n3.symm
    have hB4 : Below w.heap.size w w4 := Rp.below_up (Rp.below_up (Rp.below_up hB1.drew hb2) hb3) hb4
    refine bodyPost_ret (v := .tuple #[.agg #[.pointer r1], .agg #[.pointer r2], .int .i64 0]) ?_ rfl ⟨r1, r2, rfl, (hr1'.set k1 _).set k2' _, (hr2.set k1 _).set k2' _, (hB4.setCell m1 _).setCell m2 _⟩
    have q1 : ((w4.setCell ⟨N1, 0, none⟩ (.pointer r1)).setCell ⟨N2, 0, none⟩ (.pointer r2)).cell? ⟨N1, 0, none⟩ = some (.pointer r1) := Rp.cell_set (World.cell?_setCell_same _ _ _ k1) n3
    have q2 : ((w4.setCell ⟨N1, 0, none⟩ (.pointer r1)).setCell ⟨N2, 0, none⟩ (.pointer r2)).cell? ⟨N2, 0, none⟩ = some (.pointer r2) := World.cell?_setCell_same _ _ _ k2'
    generalize (w4.setCell ⟨N1, 0, none⟩ (.pointer r1)).setCell ⟨N2, 0, none⟩ (.pointer r2) = Z at q1 q2
    simp [results, Try.results32, go_sem, q1, q2]
end Go.Proofs.Ytigibeioapkgiaa
