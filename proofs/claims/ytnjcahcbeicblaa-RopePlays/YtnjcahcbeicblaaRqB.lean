/- A slice of ops that comes in, opened to its cells. -/
import Derived.Test.YtnjcahcbeicblaaRqA
import Derived.Deep.Slices
import Derived.ChangeSame
import Derived.OpenShut
namespace Go.Proofs.Ytnjcahcbeicblaa
set_option linter.unusedVariables false
set_option linter.unusedSimpArgs false
open Go.ChangeShapes Go.WideShapes Go.Deep Go.RowKit
theorem Rp.add_zero (a : Addr) : a.add 0 = a := by unfold Addr.add; rw [if_pos rfl]
theorem Rp.op_cells : Try.prog.cellsOf 33 = 4 := by kernel_rfl
theorem Rp.one_u8 : Try.prog.cellsOf 5 = 1 := by kernel_rfl
theorem Rp.one_int : Try.prog.cellsOf 3 = 1 := by kernel_rfl
theorem Rp.one_str : Try.prog.cellsOf 9 = 1 := by kernel_rfl
set_option maxRecDepth 100000 in
theorem Rp.ops_open {H : Type} {enc : TypeId × Value → H} {W : World} {base : Nat} {spare : Nat → Bool} {held : Bool} {fuel : Nat} {a : Option Addr} {len cap : Nat} {x : DataW H × List MemPlace}
    (h : DataW.trod enc Try.prog W base spare held fuel 22 (Value.slice a len cap).cells.toList = some x) : ∃ os, len ≤ maxLen ∧ Rp.Ops W a len os := by
  rcases open_slice Try.underlying22 h with ⟨hcs, _⟩ | ⟨b, l, c, m, n, D, Pl, hcs, _, hl, hm, hmm, _, hi⟩
  · simp [Value.cells] at hcs
    obtain ⟨rfl, rfl, rfl⟩ := hcs
    exact ⟨fun _ => ⟨0, 0, 0, ByteArray.empty⟩, Nat.zero_le _, fun i hi => by omega⟩
  · simp [Value.cells] at hcs
    obtain ⟨rfl, rfl, rfl⟩ := hcs
    have hlm : len ≤ m := by rw [hmm]; split <;> omega
    have key : ∀ i, ∃ o : Rp.POp, i < len → W.cell? (b.add (i * 4)) = some (.int .u8 o.kind) ∧ W.cell? ((b.add (i * 4)).add 1) = some (.int .i64 o.a) ∧ W.cell? ((b.add (i * 4)).add 2) = some (.int .i64 o.b) ∧ W.cell? ((b.add (i * 4)).add 3) = some (.string o.s) ∧ (Lit.int .u8 o.kind).wf = true ∧ (Lit.int .i64 o.a).wf = true ∧ (Lit.int .i64 o.b).wf = true ∧ o.s.size ≤ maxLen := by
      intro i
      by_cases hil : i < len
      · obtain ⟨cs, hc, ht⟩ := hi i (by omega)
        rw [Rp.op_cells] at hc
        obtain ⟨ys, n', _, _, _, hyl, hf⟩ := DataW.trod_struct Try.underlying33 ht
        obtain ⟨_, hcl, hat⟩ := World.cells?_some hc
        match cs, hcl with
        | [v0, v1, v2, v3], _ =>
          have g0 := hf 0 _ rfl
          change DataW.trod enc Try.prog W base spare held n' 5 (([v0, v1, v2, v3].drop 0).take (Try.prog.cellsOf 5)) = _ at g0
          rw [Rp.one_u8, List.getElem?_eq_getElem (by have hy : ys.length = 4 := hyl; omega)] at g0
          have g1 := hf 1 _ rfl
          change DataW.trod enc Try.prog W base spare held n' 3 (([v0, v1, v2, v3].drop 1).take (Try.prog.cellsOf 3)) = _ at g1
          rw [Rp.one_int, List.getElem?_eq_getElem (by have hy : ys.length = 4 := hyl; omega)] at g1
          have g2 := hf 2 _ rfl
          change DataW.trod enc Try.prog W base spare held n' 3 (([v0, v1, v2, v3].drop 2).take (Try.prog.cellsOf 3)) = _ at g2
          rw [Rp.one_int, List.getElem?_eq_getElem (by have hy : ys.length = 4 := hyl; omega)] at g2
          have g3 := hf 3 _ rfl
          change DataW.trod enc Try.prog W base spare held n' 9 (([v0, v1, v2, v3].drop 3).take (Try.prog.cellsOf 9)) = _ at g3
          rw [Rp.one_str, List.getElem?_eq_getElem (by have hy : ys.length = 4 := hyl; omega)] at g3
          obtain ⟨k0, e0, _, w0⟩ := DataW.trod_int Try.underlying5 g0
          obtain ⟨k1, e1, _, w1⟩ := DataW.trod_int Try.underlying3 g1
          obtain ⟨k2, e2, _, w2⟩ := DataW.trod_int Try.underlying3 g2
          obtain ⟨s3, e3, _, w3⟩ := DataW.trod_string Try.underlying9 g3
          simp at e0 e1 e2 e3
          subst e0; subst e1; subst e2; subst e3
          have a0 := hat 0 (by decide)
          rw [Rp.add_zero] at a0
          exact ⟨⟨k0, k1, k2, s3⟩, fun _ => ⟨a0, hat 1 (by decide), hat 2 (by decide), hat 3 (by decide), w0, w1, w2, w3⟩⟩
      · exact ⟨⟨0, 0, 0, ByteArray.empty⟩, fun h => absurd h hil⟩
    obtain ⟨os, hos⟩ := Classical.skolem.1 key
    refine ⟨os, by omega, fun i hil => ?_⟩
    obtain ⟨c0, c1, c2, c3, w0, w1, w2, w3⟩ := hos i hil
    have hb : b.block < W.heap.size := by have := World.block_lt_of_cell? W _ c0; rw [Rp.block_add] at this; exact this
    have b0 := bounds_u8 w0
    have b1 := bounds_i64 w1
    have b2 := bounds_i64 w2
    exact ⟨b, rfl, hb, c0, c1, c2, c3, b0.1, by omega, w3, by omega, by omega, by omega, by omega⟩
end Go.Proofs.Ytnjcahcbeicblaa
