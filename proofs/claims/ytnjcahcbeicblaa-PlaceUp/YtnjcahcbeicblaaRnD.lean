/- What 'Whole' answers, walked. -/
import Derived.Test.YtnjcahcbeicblaaRnC
import Derived.Lib.Strings
import Derived.Lib.IndexBytes
import Derived.Deep.LoopGhost
namespace Go.Proofs.Ytnjcahcbeicblaa
set_option linter.unusedVariables false
set_option linter.unusedSimpArgs false
open Go.RowKit
theorem tail_data (s : ByteArray) (k : Nat) : (s.extract k s.size).data.toList = s.data.toList.drop k := by
  rw [Lib.extract_data]; exact List.take_of_length_le (by simp)
theorem cell_set_same (w : World) (a : Addr) (u v : Value) (h : w.cell? a = some u) : (w.setCell a v).cell? a = some v := by
  simp [go_sem, h]
/-- what is known of the reader's block at each round's head -/
structure ReadsAt (w0 : World) (s : ByteArray) (at' : Nat) (wr : World) : Prop where
  c0 : wr.cell? ⟨w0.heap.size, 0, none⟩ = some (.string s)
  c1 : wr.cell? ⟨w0.heap.size, 1, none⟩ = some (.int .i64 at')
  fz : wr.frozen? ⟨w0.heap.size, 1, none⟩ = false
  be : Below w0.heap.size w0 wr
  wh : Rn.wholeL s.data.toList = Rn.wholeL (s.data.toList.drop at')
theorem ReadsAt.on {w0 : World} {s : ByteArray} {at' k : Nat} {wr : World} (h : ReadsAt w0 s at' wr) (hk : (Rn.firstL (s.data.toList.drop at')).2 = k) (h0 : 0 < k) (n : Nat) :
    ReadsAt w0 s (at' + k) ((wr.drewN n).setCell ⟨w0.heap.size, 1, none⟩ (.int .i64 (at' + k : Nat))) where
  c0 := by have := h.c0; simp [go_sem, this]
  c1 := by have := h.c1; simp [go_sem, this]
  fz := by have := h.fz; simp [go_sem, this]
  be := (below_drewN h.be n).setCell (Nat.le_refl _) _
  wh := by
    rw [h.wh, Rn.wholeL_eq, hk, if_neg (by omega), List.drop_drop]; simp
end Go.Proofs.Ytnjcahcbeicblaa
