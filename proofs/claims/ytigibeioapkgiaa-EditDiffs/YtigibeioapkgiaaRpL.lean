/- What 'Of', 'Put', 'Take' and 'Split' answer, walked. -/
import Derived.Test.YtigibeioapkgiaaRpK
namespace Go.Proofs.Ytigibeioapkgiaa
set_option linter.unusedVariables false
set_option linter.unusedSimpArgs false
open Go.RowKit
open Rp (Tr)
/-- a rope of the text l and the number n are answered -/
def Rp.RopePost (w : World) (l : List UInt8) (n : Int) (e : Ending) (w' : World) : Prop := ∃ r, e = .returned (.tuple #[.agg #[.pointer r], .int .i64 n]) ∧ Rp.Rep w' r l ∧ Below w.heap.size w w'
theorem Rp.below_al (w : World) (o : Obj) : Below w.heap.size w (w.alloc o) := (Below.refl _ _).alloc (Nat.le_refl _) _
theorem Rp.Rep.al {w : World} {p : Option Addr} {l : List UInt8} (h : Rp.Rep w p l) (o : Obj) : Rp.Rep (w.alloc o) p l := h.up (Rp.below_al w o)
theorem Rp.IsPart.set {w : World} {c : Nat} {x : Option Addr} (hc : w.cell? ⟨c, 0, none⟩ = some (.pointer x)) (v : Value) {b : Nat} {t : Tr} (h : Rp.IsPart w b t) : Rp.IsPart (w.setCell ⟨c, 0, none⟩ v) b t := by
  have key : ∀ {b : Nat} {t : Tr} {p q : Option Addr}, Rp.Cells w b t p q → Rp.Cells (w.setCell ⟨c, 0, none⟩ v) b t p q := by
    intro b t p q h
    have hn : c ≠ b := by
      rintro rfl
      have := h.c0
      rw [hc] at this
      simp at this
    exact ⟨Rp.cell_set h.c0 hn, Rp.cell_set h.c1 hn, Rp.cell_set h.c2 hn, Rp.cell_set h.c3 hn, Rp.cell_set h.c4 hn, Rp.cell_set h.c5 hn, Rp.cell_set h.c6 hn⟩
  induction t generalizing b with
  | leaf s => exact key h
  | node l r il ir => obtain ⟨x, y, hc', hl, hr⟩ := h; exact ⟨x, y, key hc', il hl, ir hr⟩
theorem Rp.Rep.set {w : World} {c : Nat} {x : Option Addr} (hc : w.cell? ⟨c, 0, Option.none⟩ = some (.pointer x)) (v : Value) {p : Option Addr} {l : List UInt8} (h : Rp.Rep w p l) : Rp.Rep (w.setCell ⟨c, 0, Option.none⟩ v) p l := by
  rcases h with h | ⟨b, t, e, hp, g, ht⟩
  · exact .inl h
  · exact .inr ⟨b, t, e, hp.set hc v, g, ht⟩
set_option maxHeartbeats 400000 in
theorem of_no (s : ByteArray) (w : World) (hs : s.size ≤ maxLen) (h : 4000 < s.size) : Calls Try.prog 9 #[.string s] w (Rp.RopePost w [] 4) := by
  unfold maxLen at hs
  have d1 : decide ((4000 : Int) < s.size) = true := by simp; omega
  go_enter Try.func9, Try.ntmps9
  go_wp2_with fail
  refine bodyPost_ret (v := .tuple #[.agg #[.pointer none], .int .i64 4]) (by simp [results, Try.results9, go_sem]) rfl ⟨none, rfl, Rp.Rep.none _, Rp.below_al _ _⟩
set_option maxHeartbeats 400000 in
theorem of_yes (s : ByteArray) (w : World) (h : s.size ≤ 4000) : Calls Try.prog 9 #[.string s] w (Rp.RopePost w s.data.toList 0) := by
  have d1 : decide ((4000 : Int) < s.size) = false := by simp; omega
  go_enter Try.func9, Try.ntmps9
  go_wp2_with fail
  refine (pieces_any _ _ (by omega)).mono ?_
  rintro e w1 ⟨r, rfl, hr, hb1⟩
  have hc : w1.cell? ⟨w.heap.size, 0, none⟩ = some (.pointer none) := by rw [hb1.cell (by simp [go_sem])]; simp [go_sem]
  have hf : w1.frozen? ⟨w.heap.size, 0, none⟩ = false := by rw [hb1.frozen (by simp [go_sem])]; simp [go_sem]
  go_wp2_with fail
  exact bodyPost_ret (v := .tuple #[.agg #[.pointer r], .int .i64 0]) (by simp [results, Try.results9, go_sem, hc]) rfl ⟨r, rfl, hr.set hc _, ((Rp.below_al _ _).trans (hb1.mono (by simp [go_sem]))).setCell (Nat.le_refl _) _⟩
theorem Rp.spanB_at {n : Nat} {k : Int} (h : Rp.spanB n k k = true) : ∃ m : Nat, k = m ∧ m ≤ n := by
  obtain ⟨h1, _, h2⟩ := Rp.spanB_true h
  exact ⟨k.toNat, by omega, by omega⟩
set_option maxHeartbeats 400000 in
theorem takeM_no (p : Option Addr) (l : List UInt8) (f g : Int) (w : World) (hp : Rp.Rep w p l) (h : Rp.spanB l.length f g = false) : Calls Try.prog 34 #[.agg #[.pointer p], .int .i64 f, .int .i64 g] w (Rp.RopePost w [] 3) := by
  go_enter Try.func34, Try.ntmps34
  go_wp2_with fail
  refine (holds_any p l f g _ ((hp.al _).al _)).mono ?_
  rintro e w1 ⟨rfl, hb1⟩
  have hc : w1.cell? ⟨w.heap.size + 1, 0, none⟩ = some (.pointer none) := by rw [hb1.cell (by simp [go_sem])]; simp [go_sem]
  have hf : w1.frozen? ⟨w.heap.size + 1, 0, none⟩ = false := by rw [hb1.frozen (by simp [go_sem])]; simp [go_sem]
  go_wp2_with fail
  exact bodyPost_ret (v := .tuple #[.agg #[.pointer none], .int .i64 3]) (by simp [results, Try.results34, go_sem, hc]) rfl ⟨none, rfl, Rp.Rep.none _, ((((Below.refl _ _).alloc (Nat.le_refl _) _).alloc (by simp) _).trans (hb1.mono (by simp [go_sem]; omega))).setCell (by simp) _⟩
set_option maxHeartbeats 400000 in
theorem takeM_yes (p : Option Addr) (l : List UInt8) (f g : Int) (w : World) (hp : Rp.Rep w p l) (hl : l.length ≤ 1000000) (h : Rp.spanB l.length f g = true) : Calls Try.prog 34 #[.agg #[.pointer p], .int .i64 f, .int .i64 g] w (Rp.RopePost w (Rp.tk l f g) 0) := by
  obtain ⟨h1, h2, h3⟩ := Rp.spanB_true h
  go_enter Try.func34, Try.ntmps34
  go_wp2_with fail
  refine (holds_any p l f g _ ((hp.al _).al _)).mono ?_
  rintro e w1 ⟨rfl, hb1⟩
  have hp1 := ((hp.al (.cells #[.pointer p] 27)).al (.cells #[.pointer none] 27)).up hb1
  have hx : w1.cell? ⟨w.heap.size, 0, none⟩ = some (.pointer p) := by rw [hb1.cell (by simp [go_sem])]; simp [go_sem]
  have hc : w1.cell? ⟨w.heap.size + 1, 0, none⟩ = some (.pointer none) := by rw [hb1.cell (by simp [go_sem])]; simp [go_sem]
  have hf : w1.frozen? ⟨w.heap.size + 1, 0, none⟩ = false := by rw [hb1.frozen (by simp [go_sem])]; simp [go_sem]
  have hB1 : Below w.heap.size w w1 := (((Below.refl _ _).alloc (Nat.le_refl _) _).alloc (by simp) _).trans (hb1.mono (by simp [go_sem]; omega))
  have z1 : w.heap.size + 1 < w1.heap.size := by have := hb1.size; simp [go_sem] at this; omega
  clear hb1
  go_wp2_with fail
  refine (take_any p f g l _ hp1 hl (by omega) (by omega) (by omega) (by omega)).mono ?_
  rintro e w3 ⟨r, rfl, hr, hb3⟩
  replace hc := Rp.cell_up hb3 hc
  replace hf : w3.frozen? ⟨w.heap.size + 1, 0, none⟩ = false := by rw [hb3.frozen (by simpa using z1)]; exact hf
  clear hx hp1
  go_wp2_with fail
  exact bodyPost_ret (v := .tuple #[.agg #[.pointer r], .int .i64 0]) (by simp [results, Try.results34, go_sem, hc]) rfl ⟨r, rfl, hr.set hc _, (Rp.below_up hB1 hb3).setCell (by simp) _⟩
end Go.Proofs.Ytigibeioapkgiaa
