/- The document's examples of layer 3 hold, walked. -/
import Derived.Test.YtnjcahcbeicblaaPlG
namespace Go.Proofs.Ytnjcahcbeicblaa
set_option linter.unusedVariables false
set_option linter.unusedSimpArgs false
open Go.RowKit
open Rp (Tr)
/-- the examples' text -/
def Pl.exT : ByteArray := ⟨#[97, 10, 195, 169, 98]⟩
theorem Pl.ex_row0 : Pl.Row Pl.exT.data.toList 0 0 1 := ⟨⟨by decide, by decide, .inl rfl⟩, by decide, by decide, by decide, .inr (by decide)⟩
theorem Pl.ex_row1 : Pl.Row Pl.exT.data.toList 1 2 5 := ⟨⟨by decide, by decide, .inr (by decide)⟩, by decide, by decide, by decide, .inl (by decide)⟩
theorem Pl.ex_lns : Rp.lns (Pl.exT.data.toList.take 5) = 1 := by decide
theorem Pl.ex_lns0 : Rp.lns Pl.exT.data.toList = 1 := by decide
theorem Pl.ex_col : Pl.col (Pl.exT.data.toList.take 5) = 2 := by decide
theorem Pl.ex_cut1 : ((2 : Nat) : Int) + Rn.cut (Pl.exT.extract 2 5) 1 = 4 := by kernel_rfl
theorem Pl.ex_cut0 : ((0 : Nat) : Int) + Rn.cut (Pl.exT.extract 0 1) 9 = 1 := by kernel_rfl
theorem Pl.ex_cut2 : ((0 : Nat) : Int) + Rn.cut (Pl.exT.extract 0 1) 2 = 1 := by kernel_rfl
theorem exMark (p : Option Addr) (w : World) (hp : Rp.Rep w p Pl.exT.data.toList) : Calls Try.prog 20 #[.agg #[.pointer p], .int .i64 5] w (Pl.MPost w 1 2 0) := by
  have h := mark_yes p Pl.exT.data.toList 5 w hp (by decide) (by decide)
  rw [Pl.ex_lns, Pl.ex_col] at h; exact h
theorem exAt (p : Option Addr) (w : World) (hp : Rp.Rep w p Pl.exT.data.toList) : Calls Try.prog 30 #[.agg #[.pointer p], .agg #[.int .i64 1, .int .i64 1]] w (Pl.TPost w 4 0) := by
  have h := atP_yes p Pl.exT 1 2 5 1 w hp (by decide) Pl.ex_row1 (by decide) (by decide)
  rw [Pl.ex_cut1] at h; exact h
theorem exUp (p : Option Addr) (w : World) (hp : Rp.Rep w p Pl.exT.data.toList) : Calls Try.prog 35 #[.agg #[.pointer p], .int .i64 5, .int .i64 1] w (Pl.TPost w 1 0) := by
  have h := up_yes p Pl.exT 5 1 w hp (by decide) (by decide) (by decide)
  rw [Pl.ex_lns, Pl.ex_col, Pl.ex_lns0] at h
  refine h.mono ?_
  rintro e w' ⟨n, hn, ht⟩
  have e0 : (((1 : Nat) : Int) - max 1 (-(1 + ((1 : Nat) : Int)))) = 0 := by decide
  rw [e0] at hn
  have : n = 1 := by
    rcases hn with ⟨h1, _⟩ | ⟨h1, _⟩ | ⟨k, f, t, hk, R, hn⟩
    · omega
    · rw [Pl.ex_lns0] at h1; omega
    · obtain rfl : k = 0 := by omega
      obtain ⟨rfl, rfl⟩ := Pl.ex_row0.one R
      rw [hn]; exact Pl.ex_cut2
  subst this
  exact ht
theorem exNear1 (p : Option Addr) (w : World) (hp : Rp.Rep w p Pl.exT.data.toList) : Calls Try.prog 31 #[.agg #[.pointer p], .agg #[.int .i64 9, .int .i64 0]] w (Rp.IPost w 5) :=
  near_far p Pl.exT.data.toList 9 0 w hp (by decide)
theorem exNear2 (p : Option Addr) (w : World) (hp : Rp.Rep w p Pl.exT.data.toList) : Calls Try.prog 31 #[.agg #[.pointer p], .agg #[.int .i64 0, .int .i64 9]] w (Rp.IPost w 1) := by
  have h := near_yes p Pl.exT 0 0 1 9 w hp (by decide) Pl.ex_row0 (by decide)
  rw [Pl.ex_cut0] at h; exact h
set_option maxRecDepth 100000 in
set_option maxHeartbeats 2000000 in
theorem alive3_any (w : World) : Calls Try.prog 19 #[] w (Rp.BPost w true) := by
  go_enter Try.func19, Try.ntmps19
  go_wp2_with fail
  refine (of_yes Pl.exT w (by decide)).mono ?_
  rintro e w1 ⟨r, rfl, hr, hb1⟩
  have V := Rp.var_new hr
  have be : Below w.heap.size w (w1.alloc (.cells #[.pointer r] 26)) := hb1.alloc hb1.size _
  go_wp2_with fail
  generalize w1.alloc (.cells #[.pointer r] 26) = u1 at *
  generalize w1.heap.size = N at *
  refine (exMark r _ V.rep).mono ?_
  rintro e w2 ⟨rfl, hb2⟩
  replace V := (V.up hb2).up (Rp.below_al w2 (.cells #[.int .i64 1, .int .i64 2] 46))
  have B := Pl.box2_new (v := w2) 1 2 46
  replace be := (Rp.below_up be hb2).alloc (Rp.below_up be hb2).size (.cells #[.int .i64 1, .int .i64 2] 46)
  have x0 := V.cell
  go_wp2_with fail
  generalize w2.alloc (.cells #[.int .i64 1, .int .i64 2] 46) = u2 at *
  generalize w2.heap.size = M at *
  refine (exAt r _ V.rep).mono ?_
  rintro e w3 ⟨rfl, hb3⟩
  replace V := V.up hb3
  replace B := B.up hb3
  replace be := Rp.below_up be hb3
  clear x0 hb1 hb2 hb3
  have x0 := V.cell
  go_wp2_with fail
  refine (exUp r _ V.rep).mono ?_
  rintro e w4 ⟨rfl, hb4⟩
  replace V := V.up hb4
  replace B := B.up hb4
  replace be := Rp.below_up be hb4
  clear x0 hb4
  have x0 := V.cell
  have c0 := B.c0
  have c1 := B.c1
  go_wp2_with fail
  refine (exNear1 r _ V.rep).mono ?_
  rintro e w5 ⟨rfl, hb5⟩
  replace V := V.up hb5
  replace be := Rp.below_up be hb5
  clear x0 hb5 c0 c1 B
  have x0 := V.cell
  go_wp2_with fail
  refine (exNear2 r _ V.rep).mono ?_
  rintro e w6 ⟨rfl, hb6⟩
  replace be := Rp.below_up be hb6
  clear x0 hb6
  go_wp2_with fail
  go_ret
  exact ⟨by first | rfl | simp, be⟩
end Go.Proofs.Ytnjcahcbeicblaa
