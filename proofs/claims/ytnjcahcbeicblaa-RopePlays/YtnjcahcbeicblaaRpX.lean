/- The law RopeSlices, walked. -/
import Derived.Test.YtnjcahcbeicblaaRpW
namespace Go.Proofs.Ytnjcahcbeicblaa
set_option linter.unusedVariables false
set_option linter.unusedSimpArgs false
open Go.RowKit
open Rp (Tr)
theorem slice_s (p : Option Addr) (s : ByteArray) (f g : Nat) (w : World) (hp : Rp.Rep w p s.data.toList) (hs : s.size ≤ 1000000) (h1 : f ≤ g) (h2 : g ≤ s.size) : Calls Try.prog 41 #[.agg #[.pointer p], .int .i64 f, .int .i64 g] w (Rp.SPost w (s.extract f g) 0) := by
  have := slice_yes p s.data.toList f g w hp (by simpa using hs) (by simp [Rp.spanB]; omega)
  have e : Rp.ofL (Rp.sl s.data.toList f g) = s.extract f g := by
    by_cases h0 : 0 < g
    · rw [← Rp.sl_mid s f g f g (by simp) (by omega) (by omega), Rp.ofL_self]
    · have e1 : g = 0 := by omega
      have e2 : f = 0 := by omega
      subst e1; subst e2
      rw [← Rp.ofL_self (s.extract 0 0)]
      simp [Rp.sl]
  rw [e] at this; exact this
theorem slice_s_no (p : Option Addr) (s : ByteArray) (f g : Int) (w : World) (hp : Rp.Rep w p s.data.toList) (h : Rp.spanB s.size f g = false) : Calls Try.prog 41 #[.agg #[.pointer p], .int .i64 f, .int .i64 g] w (Rp.SPost w ⟨#[]⟩ 3) :=
  slice_no p s.data.toList f g w hp (by rw [Rn.len_data0]; exact h)
end Go.Proofs.Ytnjcahcbeicblaa
