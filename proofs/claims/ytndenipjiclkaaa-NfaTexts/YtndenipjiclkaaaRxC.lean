/- What the document's Same answers of the same expression, walked. The document's reader of signs: what see, take and special answer, walked. -/
import Derived.Test.YtndenipjiclkaaaRxA
import Derived.Test.YtndenipjiclkaaaBsL
import Derived.Deep.RegionHeld3
import Derived.Deep.QuietTactic
import Derived.BigQuiet
import Derived.IntWalk
namespace Go.Proofs.Ytndenipjiclkaaa
set_option linter.unusedVariables false
set_option linter.unusedSimpArgs false
open Go.RowKit
theorem Rx.cell_dr {w : World} {a : Addr} {v : Value} (h : w.cell? a = some v) : w.drew.cell? a = some v := h
theorem Rx.below_dr {b : Nat} {w v : World} (h : Below b w v) : Below b w v.drew := h.drew
theorem Rx.Is.dr {w : World} {x : Rx} {v : Value} (h : Rx.Is w x v) : Rx.Is w.drew x v := h.up (Below.refl _ _).drew
theorem Bs.same_refl (f : Nat → Bool) : Bs.same f f = true := Bs.same_iff.2 fun _ _ => rfl
/-- the expression at an address: its cells and its value -/
theorem Rx.In.open {w : World} {x : Rx} {p : Addr} (h : Rx.In w x p) : ∃ k f a n cap, Rx.Cell w p k f a n cap ∧ Rx.Is w x (Rx.hdr k f a n cap) := by
  obtain ⟨k', f', l'⟩ := x
  simp only [Rx.In] at h
  obtain ⟨h1, a', cap', h2, h3⟩ := h
  exact ⟨k', f', a', _, cap', h2, h1, a', cap', rfl, h3⟩
open Go.RowKit
/-- the slice's cells are the signs -/
def Rx.Sg (w : World) (a : Option Addr) (L : List Int) : Prop := ∀ i (h : i < L.length), ∃ x, a = some x ∧ w.cell? (x.add i) = some (.int .i64 L[i])
theorem Rx.Sg.up {w w' : World} {a : Option Addr} {L : List Int} (h : Rx.Sg w a L) (hb : Below w.heap.size w w') : Rx.Sg w' a L := fun i hi => by
  obtain ⟨x, e, h⟩ := h i hi
  exact ⟨x, e, Bs.cell_up hb h⟩
/-- the reader in block r: its signs (no sign is below 0), its place, and what it was told -/
structure Rx.Rd (w : World) (r : Nat) (a : Option Addr) (L : List Int) (cap : Nat) (i : Int) (bad big : Bool) : Prop where
  c0 : w.cell? ⟨r, 0, none⟩ = some (.slice a L.length cap)
  c1 : w.cell? ⟨r, 1, none⟩ = some (.int .i64 i)
  c2 : w.cell? ⟨r, 2, none⟩ = some (.bool bad)
  c3 : w.cell? ⟨r, 3, none⟩ = some (.bool big)
  z1 : w.frozen? ⟨r, 1, none⟩ = false
  z2 : w.frozen? ⟨r, 2, none⟩ = false
  z3 : w.frozen? ⟨r, 3, none⟩ = false
  sg : Rx.Sg w a L
  ne : ∀ x, a = some x → x.block ≠ r
  nn : ∀ c ∈ L, 0 ≤ c
  ln : L.length ≤ 1000
  only : ∀ j v, w.cell? ⟨r, j, none⟩ = some v → j < 4
theorem Rx.Rd.lt {w : World} {r : Nat} {a : Option Addr} {L : List Int} {cap : Nat} {i : Int} {bad big : Bool} (h : Rx.Rd w r a L cap i bad big) : r < w.heap.size := World.block_lt_of_cell? w _ h.c0
theorem Rx.Rd.up {w w' : World} {r : Nat} {a : Option Addr} {L : List Int} {cap : Nat} {i : Int} {bad big : Bool} (h : Rx.Rd w r a L cap i bad big) (hb : Below w.heap.size w w') : Rx.Rd w' r a L cap i bad big := by
  have hl := h.lt
  exact ⟨Bs.cell_up hb h.c0, Bs.cell_up hb h.c1, Bs.cell_up hb h.c2, Bs.cell_up hb h.c3, by rw [hb.frozen hl]; exact h.z1, by rw [hb.frozen hl]; exact h.z2, by rw [hb.frozen hl]; exact h.z3, h.sg.up hb, h.ne, h.nn, h.ln, fun j v hv => h.only j v (by rw [← hb.cell (p := ⟨r, j, none⟩) hl]; exact hv)⟩
theorem Rx.Sg.set {w : World} {a : Option Addr} {L : List Int} {r j : Nat} {v : Value} (h : Rx.Sg w a L) (hn : ∀ x, a = some x → x.block ≠ r) : Rx.Sg (w.setCell ⟨r, j, none⟩ v) a L := fun i hi => by
  obtain ⟨x, e, h⟩ := h i hi
  have e2 : (x.add i).block = x.block := by
    simp only [Addr.add]
    split <;> rfl
  exact ⟨x, e, Bs.cell_set h (fun e' => hn x e (e2.symm.trans e'.symm))⟩
theorem Rx.only_set {w : World} {r i : Nat} {u : Value} (h : ∀ j v, w.cell? ⟨r, j, none⟩ = some v → j < 4) (hi : i < 4) : ∀ j v, (w.setCell ⟨r, i, none⟩ u).cell? ⟨r, j, none⟩ = some v → j < 4 := fun j v hv => by
  by_cases e : i = j
  · omega
  · rw [World.cell?_setCell_other _ _ _ _ (by simp [e])] at hv
    exact h j v hv
theorem Rx.Rd.setAt {w : World} {r : Nat} {a : Option Addr} {L : List Int} {cap : Nat} {i : Int} {bad big : Bool} (h : Rx.Rd w r a L cap i bad big) (k : Int) : Rx.Rd (w.setCell ⟨r, 1, none⟩ (.int .i64 k)) r a L cap k bad big := by
  obtain ⟨c0, c1, c2, c3, z1, z2, z3, sg, ne, nn, ln, only⟩ := h
  refine ⟨?_, ?_, ?_, ?_, ?_, ?_, ?_, sg.set ne, ne, nn, ln, Rx.only_set only (by omega)⟩ <;> simp [go_sem, c0, c1, c2, c3, z1, z2, z3]
theorem Rx.Rd.setBad {w : World} {r : Nat} {a : Option Addr} {L : List Int} {cap : Nat} {i : Int} {bad big : Bool} (h : Rx.Rd w r a L cap i bad big) (k : Bool) : Rx.Rd (w.setCell ⟨r, 2, none⟩ (.bool k)) r a L cap i k big := by
  obtain ⟨c0, c1, c2, c3, z1, z2, z3, sg, ne, nn, ln, only⟩ := h
  refine ⟨?_, ?_, ?_, ?_, ?_, ?_, ?_, sg.set ne, ne, nn, ln, Rx.only_set only (by omega)⟩ <;> simp [go_sem, c0, c1, c2, c3, z1, z2, z3]
theorem Rx.Rd.setBig {w : World} {r : Nat} {a : Option Addr} {L : List Int} {cap : Nat} {i : Int} {bad big : Bool} (h : Rx.Rd w r a L cap i bad big) (k : Bool) : Rx.Rd (w.setCell ⟨r, 3, none⟩ (.bool k)) r a L cap i bad k := by
  obtain ⟨c0, c1, c2, c3, z1, z2, z3, sg, ne, nn, ln, only⟩ := h
  refine ⟨?_, ?_, ?_, ?_, ?_, ?_, ?_, sg.set ne, ne, nn, ln, Rx.only_set only (by omega)⟩ <;> simp [go_sem, c0, c1, c2, c3, z1, z2, z3]
/-- what stands ahead of the reader: where it is not bad, the signs from its place on -/
def Rx.St (w : World) (r : Nat) (a : Option Addr) (L : List Int) (cap : Nat) (t : Option (List Int)) (big : Bool) : Prop :=
  match t with
  | none => ∃ i, Rx.Rd w r a L cap i true big
  | some t => ∃ k : Nat, k ≤ L.length ∧ t = L.drop k ∧ Rx.Rd w r a L cap k false big
theorem Rx.St.up {w w' : World} {r : Nat} {a : Option Addr} {L : List Int} {cap : Nat} {t : Option (List Int)} {big : Bool} (h : Rx.St w r a L cap t big) (hb : Below w.heap.size w w') : Rx.St w' r a L cap t big := by
  cases t with
  | none => obtain ⟨i, h⟩ := h; exact ⟨i, h.up hb⟩
  | some t => obtain ⟨k, h1, h2, h⟩ := h; exact ⟨k, h1, h2, h.up hb⟩
/-- the sign ahead: -1 where there is none -/
def Rx.hd : Option (List Int) → Int
  | none => -1
  | some [] => -1
  | some (c :: _) => c
/-- behind one sign; bad where there was none -/
def Rx.tl : Option (List Int) → Option (List Int)
  | none => none
  | some [] => none
  | some (_ :: r) => some r
def Rx.SeePost (w : World) (c : Int) (e : Ending) (w' : World) : Prop := e = .returned (.int .i64 c) ∧ ∃ n, w' = w.drewN n
theorem Rx.below_drewN (w : World) : ∀ n, Below w.heap.size w (w.drewN n) := fun n => by
  induction n with
  | zero => exact Below.refl _ _
  | succ n ih => exact ih.drew
theorem Rx.see_below {w w' : World} {n : Nat} (h : w' = w.drewN n) : Below w.heap.size w w' := by
  rw [h]
  exact Rx.below_drewN w n
/-- behind a call that writes in the reader alone -/
def Rx.TPost (w : World) (r : Nat) (a : Option Addr) (L : List Int) (cap : Nat) (c : Int) (t : Option (List Int)) (big : Bool) (e : Ending) (w' : World) : Prop := e = .returned (.int .i64 c) ∧ Rx.St w' r a L cap t big ∧ w.grownBy w' (some r)
theorem Rx.grown_of {w w' : World} (c : Nat) (h : Below w.heap.size w w') : w.grownBy w' (some c) := ⟨h.os, h.tape, h.output, h.size, fun k hk _ => h.block k hk⟩
theorem Rx.grown_set {w v : World} {c : Nat} (h : w.grownBy v (some c)) (j : Nat) (u : Value) : w.grownBy (v.setCell ⟨c, j, none⟩ u) (some c) :=
  ⟨h.os, h.tape, h.output, by rw [show (v.setCell ⟨c, j, none⟩ u).heap.size = v.heap.size by simp [go_sem]]; exact h.size, fun k hk hn => by rw [Below.heap_setCell _ _ _ _ (fun e => hn (by rw [e]))]; exact h.block k hk hn⟩
end Go.Proofs.Ytndenipjiclkaaa
