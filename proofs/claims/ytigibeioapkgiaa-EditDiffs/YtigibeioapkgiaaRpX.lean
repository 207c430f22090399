/- What 'same' answers, walked: a rope that is a text is the same as it. The document's examples hold, walked. The law RopeSlices, walked. -/
import Derived.Test.YtigibeioapkgiaaRpU
namespace Go.Proofs.Ytigibeioapkgiaa
set_option linter.unusedVariables false
set_option linter.unusedSimpArgs false
open Go.RowKit
open Rp (Tr)
/-- the rope p, boxed at block c, is the text s, of height n -/
structure Rp.Here (w : World) (c : Nat) (p : Option Addr) (s : ByteArray) (n : Nat) (v : World) : Prop where
  cell : v.cell? ⟨c, 0, none⟩ = some (.pointer p)
  rep : Rp.Rep v p s.data.toList
  ht : Rp.HtOf v p n
  be : Below w.heap.size w v
theorem Rp.Here.up {w v v' : World} {c : Nat} {p : Option Addr} {s : ByteArray} {n : Nat} (h : Rp.Here w c p s n v) (hb : Below v.heap.size v v') : Rp.Here w c p s n v' :=
  ⟨Rp.cell_up hb h.cell, h.rep.up hb, h.ht.up hb, Rp.below_up h.be hb⟩
theorem text_s (p : Option Addr) (s : ByteArray) (w : World) (hp : Rp.Rep w p s.data.toList) (hs : s.size ≤ 1000000) : Calls Try.prog 13 #[.agg #[.pointer p]] w (Rp.TPost w s) := by
  have := text_any p s.data.toList w hp (by simpa using hs)
  rw [Rp.ofL_self] at this; exact this
theorem len_s (p : Option Addr) (s : ByteArray) (w : World) (hp : Rp.Rep w p s.data.toList) : Calls Try.prog 14 #[.agg #[.pointer p]] w (Rp.IPost w s.size) := by
  have := len_any p s.data.toList w hp
  rw [Rn.len_data0] at this; exact this
theorem at_s (p : Option Addr) (s : ByteArray) (k : Nat) (w : World) (hp : Rp.Rep w p s.data.toList) (hs : s.size ≤ 1000000) (h : k < s.size) : Calls Try.prog 59 #[.agg #[.pointer p], .int .i64 k] w (Rp.AtPost w (s[k].toNat) true) := by
  have := at_yes p s.data.toList k w hp (by simpa using hs) (by simpa using h)
  have e : s.data.toList.getD k 0 = s[k] := by simp [h]; rfl
  rw [e] at this; exact this
theorem at_none (p : Option Addr) (s : ByteArray) (i : Int) (w : World) (hp : Rp.Rep w p s.data.toList) (h : i < 0 ∨ (s.size : Int) ≤ i) : Calls Try.prog 59 #[.agg #[.pointer p], .int .i64 i] w (Rp.AtPost w 0 false) :=
  at_no p s.data.toList i w hp (by simpa using h)
open Go.RowKit
open Rp (Tr)
/-- a rope in a variable of its own -/
structure Rp.Var (c : Nat) (p : Option Addr) (l : List UInt8) (v : World) : Prop where
  cell : v.cell? ⟨c, 0, none⟩ = some (.pointer p)
  rep : Rp.Rep v p l
theorem Rp.Var.up {v v' : World} {c : Nat} {p : Option Addr} {l : List UInt8} (h : Rp.Var c p l v) (hb : Below v.heap.size v v') : Rp.Var c p l v' := ⟨Rp.cell_up hb h.cell, h.rep.up hb⟩
theorem Rp.var_new {v : World} {p : Option Addr} {l : List UInt8} (h : Rp.Rep v p l) : Rp.Var v.heap.size p l (v.alloc (.cells #[.pointer p] 27)) := ⟨by simp [go_sem], h.al _⟩
open Go.RowKit
open Rp (Tr)
theorem slice_s (p : Option Addr) (s : ByteArray) (f g : Nat) (w : World) (hp : Rp.Rep w p s.data.toList) (hs : s.size ≤ 1000000) (h1 : f ≤ g) (h2 : g ≤ s.size) : Calls Try.prog 35 #[.agg #[.pointer p], .int .i64 f, .int .i64 g] w (Rp.SPost w (s.extract f g) 0) := by
  have := slice_yes p s.data.toList f g w hp (by simpa using hs) (by simp [Rp.spanB]; omega)
  have e : Rp.ofL (Rp.sl s.data.toList f g) = s.extract f g := by
    by_cases h0 : 0 < g
    · rw [← Rp.sl_mid s f g f g (by simp) (by omega) (by omega), Rp.ofL_self]
    · have e1 : g = 0 := by omega
      have e2 : f = 0 := by omega
      subst e1; subst e2
      rw [← Rp.ofL_self (s.extract 0 0)]
      simp [Rp.sl]
  rw [e] at this; exact this
theorem slice_s_no (p : Option Addr) (s : ByteArray) (f g : Int) (w : World) (hp : Rp.Rep w p s.data.toList) (h : Rp.spanB s.size f g = false) : Calls Try.prog 35 #[.agg #[.pointer p], .int .i64 f, .int .i64 g] w (Rp.SPost w ⟨#[]⟩ 3) :=
  slice_no p s.data.toList f g w hp (by rw [Rn.len_data0]; exact h)
end Go.Proofs.Ytigibeioapkgiaa
