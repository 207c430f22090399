/- What Class answers, walked. -/
import Derived.Test.YtaaialodlibhaaaBsG
namespace Go.Proofs.Ytaaialodlibhaaa
set_option linter.unusedVariables false
set_option linter.unusedSimpArgs false
open Go.RowKit
theorem Bs.below_drewN {w : World} : ∀ n, Below w.heap.size w (w.drewN n)
  | 0 => Below.refl _ _
  | n + 1 => by
    have h := Bs.below_drewN (w := w) n
    exact ⟨h.os, h.tape, h.output, h.size, h.block⟩
set_option maxRecDepth 100000 in
set_option maxHeartbeats 400000 in
theorem clClass_any (g : Nat → Nat) (k : Int) (c b d : Nat) (w : World) (hc : c < 256) (hg : ∀ c, c < 256 → g c < 256) (ha : Bs.Arr w b g) (hd : w.cell? ⟨d, 0, none⟩ = some (.int .i64 k)) :
    Calls Try.prog 21 #[.int .u8 c, .pointer (some ⟨b, 0, none⟩), .pointer (some ⟨d, 0, none⟩)] w (Bs.BPost w ((g c : Int) == k)) := by
  have c0 := ha.cell c hc
  have k1 : (0 : Int) ≤ (c : Int) := by omega
  have k2 : (c : Int) < 256 := by omega
  have gc := hg c hc
  clear hg
  go_enter Try.func21, Try.ntmps21
  go_wp2
  go_quiet (fail)
  go_wp2
  go_ret
  exact ⟨Bs.ret_bool (by simp), Bs.below_drewN nq⟩
set_option maxRecDepth 100000 in
set_option maxHeartbeats 1000000 in
theorem class_any (a : Option Addr) (fs : List (Nat → Bool)) (cap : Nat) (k : Int) (w : World) (hR : Bs.Row w a fs) (hn : fs.length ≤ 1000000) :
    Calls Try.prog 14 #[.slice a fs.length cap, .int .i64 k] w fun e w' => e = .returned (Bs.val (Bs.cls fs k)) ∧ Below w.heap.size w w' := by
  have zz := Bs.zero256.1
  go_enter Try.func14, Try.ntmps14
  go_wp2_with fail
  refine (classes_any a fs cap _ ((hR.up (Bs.below1 _ _)).up (Bs.below1 _ _)) hn).mono ?_
  rintro e v ⟨rfl, hb⟩
  clear hR
  obtain ⟨A, hA⟩ : ∃ A, A = Bs.arr (Bs.kls fs) := ⟨_, rfl⟩
  obtain ⟨Z, hZ⟩ : ∃ Z, Z = Bs.zeros := ⟨_, rfl⟩
  rw [← hA]
  rw [← hZ] at zz
  have hAs : A.size = 256 := by rw [hA, Bs.arr_size]
  have hsc := run_storeCells_new (P := Try.prog) v 32 Z A (by rw [hAs]; exact Bs.zero256.2) (by rw [hAs, hZ]; exact Bs.arr_size _) (by rw [hA]; exact Bs.arr_one _)
  have HA := Lib.hid hA; clear hA hZ
  have B : Below w.heap.size w v := (Bs.below2 w _ _).trans (hb.mono (by simp; omega))
  have K0 : v.cell? ⟨w.heap.size, 0, none⟩ = some (.int .i64 k) := Bs.cell_up hb (by simp [go_sem])
  have Z0 := (Bs.box_zero (w.alloc (.cells #[.int .i64 k] 3)) 25).up hb
  have eN : (w.alloc (.cells #[.int .i64 k] 3)).heap.size = w.heap.size + 1 := by simp [go_sem]
  rw [eN] at Z0
  clear eN hb
  go_wp2_with fail
  clear hsc zz
  have C0 : Bs.Arr (v.alloc (.cells A 32)) v.heap.size (Bs.kls fs) := by rw [HA.out]; exact heap_alloc_last _ _
  replace B := Bs.below_up B (Bs.below1 v (.cells A 32))
  replace K0 := Bs.cell_up (Bs.below1 v (.cells A 32)) K0
  replace Z0 := Z0.up (Bs.below1 v (.cells A 32))
  generalize v.alloc (.cells A 32) = V at *
  refine (which_any 21 #[.pointer (some ⟨v.heap.size, 0, none⟩), .pointer (some ⟨w.heap.size, 0, none⟩)] (Bs.cls fs k) _ (fun _ _ => by kernel_rfl) ?_).mono ?_
  · intro c u hc hu
    exact clClass_any (Bs.kls fs) k c _ _ u hc (fun c hc => Nat.lt_of_le_of_lt (Bs.kls_le fs c) hc) (C0.up hu) (Bs.cell_up hu K0)
  · rintro e w1 ⟨rfl, hb⟩
    unfold Bs.val
    replace B := Bs.below_up B hb
    replace Z0 := Z0.up hb
    have z0 := Z0.cell 0 (by decide); have z1 := Z0.cell 1 (by decide); have z2 := Z0.cell 2 (by decide); have z3 := Z0.cell 3 (by decide)
    have g0 := Z0.frz 0 (by decide); have g1 := Z0.frz 1 (by decide); have g2 := Z0.frz 2 (by decide); have g3 := Z0.frz 3 (by decide)
    clear K0 hb C0
    go_wp2_with fail
    exact bodyPost_ret (v := .agg #[.int .u64 ↑(Bs.word (Bs.cls fs k) 0), .int .u64 ↑(Bs.word (Bs.cls fs k) 1), .int .u64 ↑(Bs.word (Bs.cls fs k) 2), .int .u64 ↑(Bs.word (Bs.cls fs k) 3)]) (by simp [results, Try.results14, go_sem, z0, z1, z2, z3]) rfl ⟨rfl, Bs.set4 B (by omega) _ _ _ _⟩
end Go.Proofs.Ytaaialodlibhaaa
