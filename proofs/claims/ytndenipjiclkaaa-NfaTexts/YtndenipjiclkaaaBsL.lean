/- Sets as keys; sets held against each other. -/
import Derived.Test.YtndenipjiclkaaaBsM
import Derived.Maps.OwnSet
import Derived.DeepKeys4
import Derived.WideKeyPair
namespace Go.Proofs.Ytndenipjiclkaaa
set_option linter.unusedVariables false
set_option linter.unusedSimpArgs false
open Go.RowKit
open Go.Maps (Keyed)
set_option maxRecDepth 100000 in
theorem Bs.laidOut : laidOutB Try.prog = true := by kernel_rfl
set_option maxRecDepth 100000 in
theorem Bs.rowSet : (44 : TypeId) < Try.prog.types.size := of_decide_eq_true (by kernel_rfl)
set_option maxRecDepth 100000 in
theorem Bs.wideSet : (match Try.prog.underlying 44 with | some (.array _ _) | some (.struct _) => true | _ => false) = true := by rw [Try.underlying44]
set_option maxRecDepth 100000 in
theorem Bs.keyed : Keyed Try.prog 44 := Keyed.of_law (deep_law_laid Bs.laidOut (m := 2) (by omega) Bs.rowSet (by kernel_rfl) Bs.wideSet)
set_option maxRecDepth 100000 in
theorem Bs.arrKey : WideMaps.ArrKey Try.prog 44 42 4 := ⟨Try.underlying44, by kernel_rfl, by kernel_rfl, by kernel_rfl⟩
/-- the key that a set is told as -/
def Bs.key (f : Nat → Bool) : Lit := .string (keyBytes [.int .u64 (Bs.word f 0), .int .u64 (Bs.word f 1), .int .u64 (Bs.word f 2), .int .u64 (Bs.word f 3)])
set_option maxRecDepth 100000 in
theorem Bs.wf_word (f : Nat → Bool) (i : Nat) : (Lit.int .u64 (Bs.word f i)).wf = true := by
  have := Bs.word_lt f i
  simp [Lit.wf, IntKind.min, IntKind.max, IntKind.signed, IntKind.bits]
  omega
set_option maxRecDepth 100000 in
theorem Bs.keyOf_val (f : Nat → Bool) : keyOf Try.prog 44 (.agg #[.int .u64 (Bs.word f 0), .int .u64 (Bs.word f 1), .int .u64 (Bs.word f 2), .int .u64 (Bs.word f 3)]) = some (Bs.key f) := by
  have A := Bs.arrKey
  have hsz : ∃ m, Try.prog.types.size = m + 1 := ⟨Try.prog.types.size - 1, (Nat.succ_pred_eq_of_pos (Nat.lt_of_le_of_lt (Nat.zero_le _) Bs.rowSet)).symm⟩
  have hkt := A.keyType hsz
  have he := Try.underlying42
  have w0 := Bs.wf_word f 0; have w1 := Bs.wf_word f 1; have w2 := Bs.wf_word f 2; have w3 := Bs.wf_word f 3
  obtain ⟨m, hm⟩ := hsz
  unfold keyOf
  simp only [A.hu]
  rw [if_pos (by simp [hkt, Value.formed, A.hu, A.size]), hm]
  unfold Program.keyLits
  simp only [A.hu, Value.cells]
  rw [if_pos (by rw [A.size]; rfl), show List.range 4 = [0, 1, 2, 3] from rfl, List.mapM_cons, List.mapM_cons, List.mapM_cons, List.mapM_cons, List.mapM_nil]
  simp [A.one, Program.keyLits, he, w0, w1, w2, w3, Bs.key]
set_option maxRecDepth 100000 in
theorem Bs.key_is (f : Nat → Bool) : WideAt.IsKeyLit (Bs.key f) := Bs.keyed.key (Bs.keyOf_val f)
set_option maxRecDepth 100000 in
theorem Bs.key_inj {f g : Nat → Bool} (h : Bs.key f = Bs.key g) : Bs.val f = Bs.val g := Bs.keyed.inj (Bs.keyOf_val f) (by rw [h]; exact Bs.keyOf_val g)
set_option maxRecDepth 100000 in
theorem Bs.key_congr {f g : Nat → Bool} (h : Bs.val f = Bs.val g) : Bs.key f = Bs.key g := by
  have a := Bs.keyOf_val f
  have b := Bs.keyOf_val g
  unfold Bs.val at h
  rw [h, b] at a
  exact (Option.some.inj a).symm
/-- do two sets have the same bytes? -/
def Bs.same (f g : Nat → Bool) : Bool := (List.range 256).all fun c => f c == g c
set_option maxRecDepth 100000 in
theorem Bs.same_iff {f g : Nat → Bool} : Bs.same f g = true ↔ ∀ c, c < 256 → f c = g c := by simp [Bs.same]
set_option maxRecDepth 100000 in
theorem Bs.eq_run (f g : Nat → Bool) (w : World) : (Op.equalIn 10000 44 (.agg #[.int .u64 (Bs.word f 0), .int .u64 (Bs.word f 1), .int .u64 (Bs.word f 2), .int .u64 (Bs.word f 3)]) (.agg #[.int .u64 (Bs.word g 0), .int .u64 (Bs.word g 1), .int .u64 (Bs.word g 2), .int .u64 (Bs.word g 3)])).run Try.prog w = .ok (Bs.same f g) w := by
  obtain ⟨r, hr, hiff⟩ := run_equal_deep (P := Try.prog) w (m := 2) (by omega) (k := 44) (by kernel_rfl) Bs.wideSet (Bs.keyOf_val f) (Bs.keyOf_val g)
  have e : r = Bs.same f g := by
    rw [Bool.eq_iff_iff, hiff, Bs.same_iff]
    exact ⟨fun h c hc => Bs.val_inj (Bs.key_inj h) c hc, fun h => Bs.key_congr (Bs.val_congr h)⟩
  rw [← e]
  exact hr
set_option maxRecDepth 100000 in
theorem Bs.eq_none (f : Nat → Bool) (w : World) : (Op.equalIn 10000 44 (.agg #[.int .u64 (Bs.word f 0), .int .u64 (Bs.word f 1), .int .u64 (Bs.word f 2), .int .u64 (Bs.word f 3)]) (.agg #[.int .u64 0, .int .u64 0, .int .u64 0, .int .u64 0])).run Try.prog w = .ok (Bs.same f fun _ => false) w := by
  have h := Bs.eq_run f (fun _ => false) w
  simp only [Bs.word_none] at h
  exact h
end Go.Proofs.Ytndenipjiclkaaa
