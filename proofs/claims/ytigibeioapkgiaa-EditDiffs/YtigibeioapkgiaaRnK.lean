/- The law of pieces, walked. -/
import Derived.Test.YtigibeioapkgiaaRnJ
import Derived.Test.YtigibeioapkgiaaRnQ
import Derived.OpenShut
namespace Go.Proofs.Ytigibeioapkgiaa
set_option linter.unusedVariables false
set_option linter.unusedSimpArgs false
open Go.RowKit
/-- what is known of a slice of integers that came in: nil, or a row of cells that hold the numbers zs (the first len are its elements) -/
def IsRow (k : IntKind) (w : World) (a : Option Addr) (len cap : Nat) (zs : List Int) : Prop :=
  (a = none ∧ len = 0 ∧ cap = 0 ∧ zs = []) ∨
  ∃ x, a = some x ∧ len ≤ cap ∧ cap ≤ maxLen ∧ zs.length = cap ∧ (∀ i, i < zs.length → w.cell? (x.add i) = some (.int k (zs.getD i 0))) ∧ ∀ n ∈ zs, (Lit.int k n).wf = true
/-- what was put together so far -/
structure Made (s : ByteArray) (ns : List Int) (j : Nat) : Prop where
  eq : s.data.toList = Rn.cat ns
  sg : Rn.Signs ns
  sz : s.size ≤ 4 * j
  ln : ns.length ≤ j
theorem Made.on {s : ByteArray} {ns : List Int} {j : Nat} (h : Made s ns j) (n : Int) (hn : Rn.signI n = true) : Made (s ++ strOfNums (Rn.bytesI n)) (ns ++ [n]) (j + 1) where
  eq := by rw [ByteArray.data_append, Array.toList_append, h.eq, strOfNums_data, Rn.cat_append]; simp [Rn.cat, Rn.blk]
  sg := by intro m hm; simp at hm; rcases hm with hm | rfl; exact h.sg m hm; exact hn
  sz := by rw [ByteArray.size_append, strOfNums_size]; have := bytesI_len n; have := h.sz; omega
  ln := by have := h.ln; simp; omega
theorem Made.skip {s : ByteArray} {ns : List Int} {j : Nat} (h : Made s ns j) : Made s ns (j + 1) := ⟨h.eq, h.sg, by have := h.sz; omega, by have := h.ln; omega⟩
end Go.Proofs.Ytigibeioapkgiaa
