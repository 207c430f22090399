/- What 'Up' of layer 3 answers, walked. -/
import Derived.Test.YtnjcahcbeicblaaPlF
namespace Go.Proofs.Ytnjcahcbeicblaa
set_option linter.unusedVariables false
set_option linter.unusedSimpArgs false
open Go.RowKit
open Rp (Tr)
set_option maxHeartbeats 1000000 in
theorem up_no (p : Option Addr) (l : List UInt8) (i n : Int) (w : World) (hp : Rp.Rep w p l) (h : i < 0 ∨ (l.length : Int) < i) : Calls Try.prog 35 #[.agg #[.pointer p], .int .i64 i, .int .i64 n] w (Pl.TPost w 0 3) := by
  have hbw := Rp.below_al w (.cells #[.pointer p] 26)
  go_enter Try.func35, Try.ntmps35
  go_wp2_with fail
  refine (mark_no p l i _ (hp.up hbw) h).mono ?_
  rintro e w1 ⟨rfl, hb1⟩
  have be := Rp.below_up hbw hb1
  go_wp2_with fail
  go_ret2
  exact ⟨rfl, be.alloc be.size _⟩
/-- what Up goes with -/
def Pl.upTo (n lines : Int) : Int := max lines (-(1 + n))
def Pl.NTPost (w : World) (s : ByteArray) (x y : Int) (e : Ending) (w' : World) : Prop := ∃ n, Pl.NearIs s x y n ∧ Pl.TPost w n 0 e w'
theorem Pl.none_up {w w1 : World} (hb : Below w.heap.size w w1) {c i : Nat} {v : Value} (h : w.cell? ⟨c, 0, none⟩ = some v) (hn : w.cell? ⟨c, i, none⟩ = none) : w1.cell? ⟨c, i, none⟩ = none := by
  have lt : c < w.heap.size := World.block_lt_of_cell? w _ h
  rw [hb.cell (p := ⟨c, i, none⟩) lt]; exact hn
theorem Pl.rep_far {w : World} {c i : Nat} (hc : w.cell? ⟨c, 5, Option.none⟩ = none) (v : Value) {p : Option Addr} {l : List UInt8} (h : Rp.Rep w p l) : Rp.Rep (w.setCell ⟨c, i, Option.none⟩ v) p l := by
  rcases h with h | ⟨b, t, e, hp, g, ht⟩
  · exact .inl h
  · exact .inr ⟨b, t, e, hp.far hc v, g, ht⟩
theorem Pl.cell_beside {w : World} {c : Nat} (u : Value) {v : Value} (h : w.cell? ⟨c, 1, none⟩ = some v) : (w.setCell ⟨c, 0, none⟩ u).cell? ⟨c, 1, none⟩ = some v := by simp [go_sem, h]
set_option maxHeartbeats 1000000 in
theorem up_yes (p : Option Addr) (s : ByteArray) (a : Nat) (n : Int) (w : World) (hp : Rp.Rep w p s.data.toList) (hs : s.size ≤ 1000000) (ha : a ≤ s.size) (hn : n ≤ 2 ^ 63 - 1) : Calls Try.prog 35 #[.agg #[.pointer p], .int .i64 a, .int .i64 n] w (Pl.NTPost w s ((Rp.lns (s.data.toList.take a) : Int) - max n (-(1 + (Rp.lns s.data.toList : Int)))) (Pl.col (s.data.toList.take a))) := by
  have hl : s.data.toList.length ≤ 1000000 := by rw [Rn.len_data0]; exact hs
  have b1 : Rp.lns (s.data.toList.take a) ≤ 1000000 := by have h1 := Rp.lns_le (s.data.toList.take a); have h2 := List.length_take_le a s.data.toList; omega
  have b2 : Rp.lns s.data.toList ≤ 1000000 := by have h1 := Rp.lns_le s.data.toList; omega
  have b3 := Pl.col_bd (s.data.toList.take a)
  have b4 : ((s.data.toList.take a).length : Int) ≤ 1000000 := by have h2 := List.length_take_le' a s.data.toList; omega
  have hbw := Rp.below_al w (.cells #[.pointer p] 26)
  have hc0 : (w.alloc (.cells #[.pointer p] 26)).cell? ⟨w.heap.size, 0, none⟩ = some (.pointer p) := by simp [go_sem]
  go_enter Try.func35, Try.ntmps35
  go_wp2_with fail
  refine (mark_yes p s.data.toList a _ (hp.up hbw) hl (by rw [Rn.len_data0]; exact ha)).mono ?_
  rintro e w1 ⟨rfl, hb1⟩
  generalize Rp.lns (s.data.toList.take a) = L at *
  generalize Pl.col (s.data.toList.take a) = C at *
  have be := Rp.below_up hbw hb1
  replace hc0 := Rp.cell_up hb1 hc0
  have hc1 := hc0
  replace hc0 := Rp.cell_al (o := .cells #[.int .i64 L, .int .i64 C] 46) hc0
  have be1 := be.alloc be.size (.cells #[.int .i64 L, .int .i64 C] 46)
  have hpU := hp.up be1
  have B := Pl.box2_new (v := w1) L C 46
  have n5 : (w1.alloc (.cells #[.int .i64 L, .int .i64 C] 46)).cell? ⟨w1.heap.size, 5, none⟩ = none := by simp [go_sem]
  have hNw : w.heap.size ≤ w1.heap.size := be.size
  have w1b : IntKind.i64.wrap (-(1 + (Rp.lns s.data.toList : Int))) = -(1 + (Rp.lns s.data.toList : Int)) := IntWalk.i64_in _ (by omega)
  have w2b : IntKind.i64.wrap ((L : Int) - max n (-(1 + (Rp.lns s.data.toList : Int)))) = (L : Int) - max n (-(1 + (Rp.lns s.data.toList : Int))) := IntWalk.i64_in _ (by omega)
  go_wp2_with fail
  generalize w1.alloc (.cells #[.int .i64 L, .int .i64 C] 46) = U at *
  obtain ⟨c0, c1, f0, f1⟩ := B
  have nn : w1.heap.size ≠ w.heap.size := by have := be.size; have := World.block_lt_of_cell? w1 _ hc1; simp at this; omega
  clear hc1
  generalize w1.heap.size = N at *
  go_region_with (first | (go_at_call 21; refine (linesP_any p s.data.toList _ (by first | assumption | exact hpU.dr) hl).mono ?_; rintro e w2 ⟨rfl, hb2⟩; have c0x := Rp.cell_up hb2 (Rp.cell_dr c0); have f0x := Rp.frz_up hb2 (Rp.cell_dr c0) (Rp.frz_dr f0); have c1x := Rp.cell_up hb2 (Rp.cell_dr c1); have hc0x := Rp.cell_up hb2 (Rp.cell_dr hc0); have hpx := hpU.dr.up hb2; have bex := Rp.below_up (Rp.below_dr be1) hb2; have n5x := Pl.none_up hb2 (Rp.cell_dr c0) n5))
  all_goals
    clear w1b
    generalize (L : Int) - max n (-(1 + (Rp.lns s.data.toList : Int))) = X at *
    have hpy := Pl.rep_far n5x (i := 0) (.int .i64 X) hpx
    have c0y := World.cell?_setCell_same w2 ⟨N, 0, none⟩ (.int .i64 X) c0x
    have c1y := Pl.cell_beside (.int .i64 X) c1x
    have hcy := Rp.cell_set (p := ⟨N, 0, none⟩) (u := .int .i64 X) hc0x nn
    have bey := bex.setCell (p := ⟨N, 0, none⟩) hNw (.int .i64 X)
    clear hpx c0x c1x hc0x bex n5x c0 c1 f0 f1 hc0 f0x n5 hpU be1
    generalize w2.setCell ⟨N, 0, none⟩ (.int .i64 X) = V at *
    go_wp2_with fail
    refine (near_any p s X C _ hpy hs (by omega)).mono ?_
    rintro e w3 ⟨m, hm, rfl, hb3⟩
    go_wp2_with fail
    go_ret2
    exact ⟨m, hm, rfl, Rp.below_up bey hb3⟩
end Go.Proofs.Ytnjcahcbeicblaa
