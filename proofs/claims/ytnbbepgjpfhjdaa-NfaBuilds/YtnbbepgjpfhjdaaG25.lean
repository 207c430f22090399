/- What the document's Run answers, walked. -/
import Derived.Test.YtnbbepgjpfhjdaaG24
namespace Go.Proofs.Ytnbbepgjpfhjdaa
set_option linter.unusedVariables false
set_option linter.unusedSimpArgs false
open Go.RowKit
def Nr.ne2 (H k : Nat) : Prop := k ≠ H ∧ k ≠ H + 1
/-- the worlds of Run -/
structure Nr.RW (w : World) (v1 v2 : Value) (os rs : List Int) (u : World) : Prop where
  bel : Below w.heap.size w u
  res : Nf.FB u w.heap.size (.slice none 0 0) (.slice none 0 0)
  f : Nf.FB u (w.heap.size + 1) v1 v2
  r1 : Nf.Row u (Nr.ne2 w.heap.size) v1 os
  r2 : Nf.Row u (Nr.ne2 w.heap.size) v2 rs
theorem Nr.RW.up {w : World} {v1 v2 : Value} {os rs : List Int} {u u' : World} (h : Nr.RW w v1 v2 os rs u) (hb : Below u.heap.size u u') : Nr.RW w v1 v2 os rs u' := ⟨Bs.below_up h.bel hb, h.res.up hb, h.f.up hb, h.r1.up hb, h.r2.up hb⟩
theorem Nr.RW.put {w : World} {v1 v2 : Value} {os rs : List Int} {u : World} (h : Nr.RW w v1 v2 os rs u) {x y : Value} {os' rs' : List Int} (hx : Nf.Row u (Nr.ne2 w.heap.size) x os') (hy : Nf.Row u (Nr.ne2 w.heap.size) y rs') : Nr.RW w x y os' rs' ((u.setCell ⟨w.heap.size + 1, 0, none⟩ x).setCell ⟨w.heap.size + 1, 1, none⟩ y) :=
  ⟨(h.bel.setCell (p := ⟨w.heap.size + 1, 0, none⟩) (by simp) _).setCell (p := ⟨w.heap.size + 1, 1, none⟩) (by simp) _, (h.res.far (by omega) _).far (by omega) _, (h.f.set0 x).set1 y, (hx.set (fun e => e.2 rfl) _).set (fun e => e.2 rfl) _, (hy.set (fun e => e.2 rfl) _).set (fun e => e.2 rfl) _⟩
theorem Nr.RW.out {w : World} {v1 v2 : Value} {os rs : List Int} {u : World} (h : Nr.RW w v1 v2 os rs u) {P R : Nat → Prop} (h1 : Nf.Rise os P) (h2 : Nf.Rise rs R) : Ng.FP w (fun _ => True) P R (.returned (.agg #[v1, v2])) ((u.setCell ⟨w.heap.size, 0, none⟩ v1).setCell ⟨w.heap.size, 1, none⟩ v2) :=
  ⟨os, rs, ⟨v1, v2, rfl, ((h.r1.set (fun e => e.1 rfl) _).set (fun e => e.1 rfl) _).mono (fun _ _ => trivial), ((h.r2.set (fun e => e.1 rfl) _).set (fun e => e.1 rfl) _).mono (fun _ _ => trivial), (h.bel.setCell (p := ⟨w.heap.size, 0, none⟩) (by simp) _).setCell (p := ⟨w.heap.size, 1, none⟩) (by simp) _⟩, h1, h2⟩
def Nr.RP (H : Nat) (P R : Nat → Prop) (v : Value) (u : World) : Prop := ∃ v3 v4 os rs, v = .agg #[v3, v4] ∧ Nf.Row u (Nr.ne2 H) v3 os ∧ Nf.Row u (Nr.ne2 H) v4 rs ∧ Nf.Rise os P ∧ Nf.Rise rs R
def Nr.relR (r H i : Nat) (v1 v2 : Value) (s : ByteArray) (c : Nat) (P R : Nat → Prop) : List (Value → World → Prop) :=
  [fun v _ => v = .pointer (some ⟨r, 0, none⟩), fun v _ => v = .agg #[v1, v2], fun v _ => v = .string s, fun v _ => v = .int .i64 i, fun v _ => v = .int .u8 c, Nr.RP H P R]
theorem Nr.relR_up (r H i : Nat) (v1 v2 : Value) (s : ByteArray) (c : Nat) (P R : Nat → Prop) : Rg.Ups (Nr.relR r H i v1 v2 s c P R) := by
  refine ⟨?_, ?_, ?_, ?_, ?_, ?_, trivial⟩
  all_goals intro v w w' h hb
  · exact h
  · exact h
  · exact h
  · exact h
  · exact h
  · obtain ⟨v3, v4, os, rs, e, h1, h2, h3, h4⟩ := h
    exact ⟨v3, v4, os, rs, e, h1.up hb, h2.up hb, h3, h4⟩
end Go.Proofs.Ytnbbepgjpfhjdaa
