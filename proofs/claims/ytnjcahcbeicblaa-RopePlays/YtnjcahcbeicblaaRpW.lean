/- The document's examples hold, walked. -/
import Derived.Test.YtnjcahcbeicblaaRpV
namespace Go.Proofs.Ytnjcahcbeicblaa
set_option linter.unusedVariables false
set_option linter.unusedSimpArgs false
open Go.RowKit
open Rp (Tr)
/-- a rope in a variable of its own -/
structure Rp.Var (c : Nat) (p : Option Addr) (l : List UInt8) (v : World) : Prop where
  cell : v.cell? ⟨c, 0, none⟩ = some (.pointer p)
  rep : Rp.Rep v p l
theorem Rp.Var.up {v v' : World} {c : Nat} {p : Option Addr} {l : List UInt8} (h : Rp.Var c p l v) (hb : Below v.heap.size v v') : Rp.Var c p l v' := ⟨Rp.cell_up hb h.cell, h.rep.up hb⟩
theorem Rp.var_new {v : World} {p : Option Addr} {l : List UInt8} (h : Rp.Rep v p l) : Rp.Var v.heap.size p l (v.alloc (.cells #[.pointer p] 26)) := ⟨by simp [go_sem], h.al _⟩
set_option maxRecDepth 100000 in
set_option maxHeartbeats 2000000 in
theorem alive2_any (w : World) : Calls Try.prog 9 #[] w (Rp.BPost w true) := by
  go_enter Try.func9, Try.ntmps9
  go_wp2_with fail
  refine (of_yes ⟨#[97, 98]⟩ w (by decide)).mono ?_
  rintro e w1 ⟨r, rfl, hr, hb1⟩
  have V1 := Rp.var_new hr
  have B1 : Below w.heap.size w (w1.alloc (.cells #[.pointer r] 26)) := hb1.alloc hb1.size _
  go_wp2_with fail
  generalize w1.alloc (.cells #[.pointer r] 26) = u1 at *
  refine (put_yes r _ 1 ⟨#[120, 121]⟩ _ V1.rep (by decide) (by decide)).mono ?_
  rintro e w2 ⟨a, rfl, ha, hb2⟩
  have ea : ((⟨#[97, 98]⟩ : ByteArray).data.toList.take 1 ++ (⟨#[120, 121]⟩ : ByteArray).data.toList ++ (⟨#[97, 98]⟩ : ByteArray).data.toList.drop 1) = (⟨#[97, 120, 121, 98]⟩ : ByteArray).data.toList := by decide
  rw [ea] at ha; clear ea
  replace V1 := (V1.up hb2).up (Rp.below_al w2 (.cells #[.pointer a] 26))
  have V2 := Rp.var_new ha
  replace B1 := (Rp.below_up B1 hb2).alloc (Rp.below_up B1 hb2).size (.cells #[.pointer a] 26)
  generalize w1.heap.size = n1 at *
  go_wp2_with fail
  generalize w2.alloc (.cells #[.pointer a] 26) = u2 at *
  generalize w2.heap.size = n2 at *
  refine (takeM_yes a _ 0 2 _ V2.rep (by decide) (by decide)).mono ?_
  rintro e w3 ⟨b, rfl, hb, hb3⟩
  have eb : Rp.tk (⟨#[97, 120, 121, 98]⟩ : ByteArray).data.toList 0 2 = (⟨#[121, 98]⟩ : ByteArray).data.toList := by decide
  rw [eb] at hb; clear eb
  replace V1 := (V1.up hb3).up (Rp.below_al w3 (.cells #[.pointer b] 26))
  replace V2 := (V2.up hb3).up (Rp.below_al w3 (.cells #[.pointer b] 26))
  have V3 := Rp.var_new hb
  replace B1 := (Rp.below_up B1 hb3).alloc (Rp.below_up B1 hb3).size (.cells #[.pointer b] 26)
  go_wp2_with fail
  generalize w3.alloc (.cells #[.pointer b] 26) = u3 at *
  generalize w3.heap.size = n3 at *
  refine (of_yes ⟨#[97, 10, 98, 10]⟩ _ (by decide)).mono ?_
  rintro e w4 ⟨l, rfl, hl, hb4⟩
  replace V1 := (V1.up hb4).up (Rp.below_al w4 (.cells #[.pointer l] 26))
  replace V2 := (V2.up hb4).up (Rp.below_al w4 (.cells #[.pointer l] 26))
  replace V3 := (V3.up hb4).up (Rp.below_al w4 (.cells #[.pointer l] 26))
  have V4 := Rp.var_new hl
  replace B1 := (Rp.below_up B1 hb4).alloc (Rp.below_up B1 hb4).size (.cells #[.pointer l] 26)
  go_wp2_with fail
  generalize w4.alloc (.cells #[.pointer l] 26) = u4 at *
  generalize w4.heap.size = n4 at *
  refine (line_yes l _ 1 _ V4.rep (by decide) (by decide) (by decide)).mono ?_
  rintro e w5 ⟨q, hq, rfl, hb5⟩
  have hq2 : q = 2 := Rp.behind_one hq (by refine ⟨by decide, by decide, .inr (by decide)⟩)
  subst hq2
  clear hq
  replace V1 := V1.up hb5
  replace V2 := V2.up hb5
  replace V3 := V3.up hb5
  replace V4 := V4.up hb5
  replace B1 := Rp.below_up B1 hb5
  have x4 := V4.cell
  go_wp2_with fail
  refine (line_no l _ 3 _ V4.rep (.inr (by decide))).mono ?_
  rintro e w6 ⟨rfl, hb6⟩
  replace V1 := V1.up hb6
  replace V2 := V2.up hb6
  replace V3 := V3.up hb6
  replace V4 := V4.up hb6
  replace B1 := Rp.below_up B1 hb6
  clear x4
  have x1 := V1.cell
  have x2 := V2.cell
  have x3 := V3.cell
  have x4 := V4.cell
  go_wp2_with fail
  refine (text_s a ⟨#[97, 120, 121, 98]⟩ _ V2.rep (by decide)).mono ?_
  rintro e w7 ⟨rfl, hb7⟩
  replace V1 := V1.up hb7
  replace V3 := V3.up hb7
  replace V4 := V4.up hb7
  replace B1 := Rp.below_up B1 hb7
  clear x1 x2 x3 x4
  have x1 := V1.cell
  have x3 := V3.cell
  have x4 := V4.cell
  go_wp2_with fail
  refine (text_s b ⟨#[121, 98]⟩ _ V3.rep (by decide)).mono ?_
  rintro e w8 ⟨rfl, hb8⟩
  replace V1 := V1.up hb8
  replace V4 := V4.up hb8
  replace B1 := Rp.below_up B1 hb8
  clear x1 x3 x4
  have x1 := V1.cell
  have x4 := V4.cell
  go_wp2_with fail
  refine (lines_any l [97, 10, 98, 10] 3 _ V4.rep (by decide)).mono ?_
  rintro e w9 ⟨rfl, hb9⟩
  have eln : Rp.lns (([97, 10, 98, 10] : List UInt8).take (3 : Int).toNat) = 1 := by decide
  rw [eln]; clear eln
  replace V1 := V1.up hb9
  replace B1 := Rp.below_up B1 hb9
  clear x1 x4
  have x1 := V1.cell
  go_wp2_with fail
  refine (text_s r ⟨#[97, 98]⟩ _ V1.rep (by decide)).mono ?_
  rintro e w10 ⟨rfl, hb10⟩
  replace B1 := Rp.below_up B1 hb10
  clear x1
  go_wp2_with fail
  go_ret
  exact ⟨by first | rfl | simp, B1⟩
end Go.Proofs.Ytnjcahcbeicblaa
