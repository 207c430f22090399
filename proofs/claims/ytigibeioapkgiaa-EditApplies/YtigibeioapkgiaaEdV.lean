/- A slice of edits that comes in, opened to its cells. -/
import Derived.Test.YtigibeioapkgiaaEdR
import Derived.Deep.Slices
import Derived.ChangeSame
import Derived.OpenShut
namespace Go.Proofs.Ytigibeioapkgiaa
set_option linter.unusedVariables false
set_option linter.unusedSimpArgs false
open Go.ChangeShapes Go.WideShapes Go.Deep Go.RowKit
theorem Ed.add_zero (a : Addr) : a.add 0 = a := by unfold Addr.add; rw [if_pos rfl]
theorem Ed.edit_cells : Try.prog.cellsOf 46 = 3 := by kernel_rfl
theorem Ed.one_int : Try.prog.cellsOf 3 = 1 := by kernel_rfl
theorem Ed.one_str : Try.prog.cellsOf 9 = 1 := by kernel_rfl
/-- what is known of a slice of edits that came in -/
def Ed.IsEdits (W : World) (a : Option Addr) (len cap : Nat) (es : List Ed.E) : Prop := es.length = len ∧ Ed.Row W a es ∧ Ed.Nums es ∧ len ≤ cap ∧ cap ≤ maxLen
set_option maxRecDepth 100000 in
theorem Ed.edits_open {H : Type} {enc : TypeId × Value → H} {W : World} {base : Nat} {spare : Nat → Bool} {held : Bool} {fuel : Nat} {a : Option Addr} {len cap : Nat} {x : DataW H × List MemPlace}
    (h : DataW.trod enc Try.prog W base spare held fuel 22 (Value.slice a len cap).cells.toList = some x) : ∃ es, Ed.IsEdits W a len cap es := by
  rcases open_slice Try.underlying22 h with ⟨hcs, _⟩ | ⟨b, l, c, m, n, D, Pl, hcs, _, hl, hm, hmm, _, hi⟩
  · simp [Value.cells] at hcs
    obtain ⟨rfl, rfl, rfl⟩ := hcs
    exact ⟨[], rfl, fun i hi => by simp at hi, fun e he => by simp at he, Nat.le_refl _, Nat.zero_le _⟩
  · simp [Value.cells] at hcs
    obtain ⟨rfl, rfl, rfl⟩ := hcs
    have hlm : len ≤ m := by rw [hmm]; split <;> omega
    have key : ∀ i, ∃ o : Ed.E, i < len → W.cell? (b.add (i * 3)) = some (.int .i64 o.pos) ∧ W.cell? ((b.add (i * 3)).add 1) = some (.int .i64 o.del) ∧ W.cell? ((b.add (i * 3)).add 2) = some (.string o.ins) ∧ (Lit.int .i64 o.pos).wf = true ∧ (Lit.int .i64 o.del).wf = true := by
      intro i
      by_cases hil : i < len
      · obtain ⟨cs, hc, ht⟩ := hi i (by omega)
        rw [Ed.edit_cells] at hc
        obtain ⟨ys, n', _, _, _, hyl, hf⟩ := DataW.trod_struct Try.underlying46 ht
        obtain ⟨_, hcl, hat⟩ := World.cells?_some hc
        match cs, hcl with
        | [v0, v1, v2], _ =>
          have g0 := hf 0 _ rfl
          change DataW.trod enc Try.prog W base spare held n' 3 (([v0, v1, v2].drop 0).take (Try.prog.cellsOf 3)) = _ at g0
          rw [Ed.one_int, List.getElem?_eq_getElem (by have hy : ys.length = 3 := hyl; omega)] at g0
          have g1 := hf 1 _ rfl
          change DataW.trod enc Try.prog W base spare held n' 3 (([v0, v1, v2].drop 1).take (Try.prog.cellsOf 3)) = _ at g1
          rw [Ed.one_int, List.getElem?_eq_getElem (by have hy : ys.length = 3 := hyl; omega)] at g1
          have g2 := hf 2 _ rfl
          change DataW.trod enc Try.prog W base spare held n' 9 (([v0, v1, v2].drop 2).take (Try.prog.cellsOf 9)) = _ at g2
          rw [Ed.one_str, List.getElem?_eq_getElem (by have hy : ys.length = 3 := hyl; omega)] at g2
          obtain ⟨k0, e0, _, w0⟩ := DataW.trod_int Try.underlying3 g0
          obtain ⟨k1, e1, _, w1⟩ := DataW.trod_int Try.underlying3 g1
          obtain ⟨s2, e2, _, w2⟩ := DataW.trod_string Try.underlying9 g2
          simp at e0 e1 e2
          subst e0; subst e1; subst e2
          have a0 := hat 0 (by decide)
          rw [Ed.add_zero] at a0
          exact ⟨⟨k0, k1, s2⟩, fun _ => ⟨a0, hat 1 (by decide), hat 2 (by decide), w0, w1⟩⟩
      · exact ⟨⟨0, 0, ByteArray.empty⟩, fun h => absurd h hil⟩
    obtain ⟨os, hos⟩ := Classical.skolem.1 key
    refine ⟨List.ofFn (fun i : Fin len => os i), by simp, fun i hi => ?_, fun e he => ?_, by omega, by omega⟩
    · have hil : i < len := by simpa using hi
      obtain ⟨c0, c1, c2, w0, w1⟩ := hos i hil
      rw [Rp.add_form _ _ (by decide)] at c1 c2
      refine ⟨b, rfl, ?_⟩
      rw [List.getElem_ofFn]
      exact ⟨c0, c1, c2⟩
    · obtain ⟨i, rfl⟩ := List.mem_ofFn.1 he
      obtain ⟨_, _, _, w0, w1⟩ := hos i i.2
      have b0 := bounds_i64 w0
      have b1 := bounds_i64 w1
      exact ⟨by omega, by omega, by omega, by omega⟩
end Go.Proofs.Ytigibeioapkgiaa
