/- What the document's Alike and Classes answer, walked. -/
import Derived.Test.YtaaialodlibhaaaBsG
import Derived.Deep.RegionHeld3
namespace Go.Proofs.Ytaaialodlibhaaa
set_option linter.unusedVariables false
set_option linter.unusedSimpArgs false
open Go.RowKit
theorem Bs.cell_dr {w : World} {a : Addr} {v : Value} (h : w.cell? a = some v) : w.drew.cell? a = some v := h
theorem Bs.below_dr {B : Nat} {w v : World} (h : Below B w v) : Below B w v.drew := h.drew
theorem Bs.alike_snoc (fs : List (Nat → Bool)) (c d k : Nat) (hk : k < fs.length) : Bs.alike (fs.take (k + 1)) c d = (Bs.alike (fs.take k) c d && (fs[k] c == fs[k] d)) := by
  unfold Bs.alike
  rw [List.take_succ_eq_append_getElem hk, List.all_append]
  simp
set_option maxRecDepth 100000 in
set_option maxHeartbeats 1000000 in
theorem refAlike_any (a : Option Addr) (fs : List (Nat → Bool)) (cap c d : Nat) (w : World) (hc : c < 256) (hd : d < 256) (hR : Bs.Row w a fs) (hn : fs.length ≤ 1000000) :
    Calls Try.prog 15 #[.slice a fs.length cap, .int .u8 c, .int .u8 d] w (Bs.BPost w (Bs.alike fs c d)) := by
  have HR := Lib.hid hR; clear hR
  go_enter Try.func15, Try.ntmps15
  go_wp2_with fail
  go_loopw [7] (fun i wr => ∃ k : Nat, k ≤ fs.length ∧ i = .int .i64 k ∧ Hid (Bs.alike (fs.take k) c d = true) ∧ Below w.heap.size w wr) (fun i _ => fs.length - (intOf i).toNat)
  case atStart => exact ⟨0, Nat.zero_le _, rfl, Lib.hid (by simp [Bs.alike]), Below.refl _ _⟩
  case round =>
    obtain ⟨k, hk, rfl, HA, B⟩ := hrel
    by_cases hlt : k < fs.length
    · obtain ⟨x, rfl, hx⟩ := HR.out k hlt
      replace hx := hx.up B
      obtain ⟨x0, x1, x2, x3⟩ := hx
      have HSN := Lib.hid (Bs.alike_snoc fs c d k hlt)
      have HF := Lib.hid (fun (h : Bs.alike fs c d = true) => Bs.alike_iff.1 h fs[k] (List.getElem_mem hlt))
      have hk1 : (0 : Int) ≤ (k : Int) := by omega
      have hk2 : (k : Int) < (fs.length : Int) := by omega
      generalize fs[k] = f at *
      have HC := fun (e : Nat) (he : e < 256) (v : World) => refHas_any f e he v
      have HC' := Lib.hid HC; clear HC
      go_wp2_with fail
      go_region_held3 (fun v => v.cell? (x.add (k * 4)) = some (.int .u64 ↑(Bs.word f 0)) ∧ v.cell? ⟨(x.add (k * 4)).block, (x.add (k * 4)).off + 1, none⟩ = some (.int .u64 ↑(Bs.word f 1)) ∧ v.cell? ⟨(x.add (k * 4)).block, (x.add (k * 4)).off + 2, none⟩ = some (.int .u64 ↑(Bs.word f 2)) ∧ v.cell? ⟨(x.add (k * 4)).block, (x.add (k * 4)).off + 3, none⟩ = some (.int .u64 ↑(Bs.word f 3)) ∧ Below w.heap.size w v)
        (first
          | (refine ⟨?_, ?_, ?_, ?_, ?_⟩ <;> with_reducible (first | (refine Bs.cell_dr ?_; assumption) | (refine Bs.below_dr ?_; assumption)))
          | (go_split_ands; refine ⟨?_, ?_, ?_, ?_, ?_⟩ <;> with_reducible (first | (refine Bs.cell_up hb1 ?_; assumption) | (refine Bs.below_up ?_ hb1; assumption))))
        (first
          | (go_at_call 7; go_split_ands; refine (HC'.out _ (by assumption) _).mono ?_; rintro r w2 ⟨rfl, hb1⟩))
      all_goals
        rename_i hH
        obtain ⟨_, _, _, _, B2⟩ := hH
        clear x0 x1 x2 x3 hb1 B
        rcases Bool.eq_false_or_eq_true (f c == f d) with hq | hq
        · have hv : (!(f c == f d)) = false := by rw [hq]; rfl
          rw [hv]
          clear hv
          have HQ := Lib.hid hq; clear hq
          go_wp2_with fail
          go_roundw
          case rel => exact ⟨k + 1, by omega, by go_num, Lib.hid (by rw [HSN.out, HA.out, HQ.out]; rfl), B2⟩
          case measure => simp [intOf]; omega
        · have hno : Bs.alike fs c d = false := by
            cases h : Bs.alike fs c d
            · rfl
            · rw [HF.out h] at hq; simp at hq
          have HNO := Lib.hid hno; clear hno
          have hv : (!(f c == f d)) = true := by rw [hq]; rfl
          rw [hv]
          clear hv hq
          go_wp2_with fail
          go_ret
          exact ⟨Bs.ret_bool HNO.out.symm, B2⟩
    · have e1 : fs.take k = fs := List.take_of_length_le (by omega)
      rw [e1] at HA
      clear e1
      go_wp2_with fail
      go_ret
      exact ⟨Bs.ret_bool HA.out.symm, B⟩
end Go.Proofs.Ytaaialodlibhaaa
