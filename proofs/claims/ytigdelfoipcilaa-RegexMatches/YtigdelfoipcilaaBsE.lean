/- What Range, like and the closures answer, walked. -/
import Derived.Test.YtigdelfoipcilaaBsD
import Derived.Test.YtigdelfoipcilaaBsK
import Derived.BigQuiet
import Derived.Deep.QuietTactic
namespace Go.Proofs.Ytigdelfoipcilaa
set_option linter.unusedVariables false
set_option linter.unusedSimpArgs false
open Go.RowKit
def Bs.rng (lo hi : Nat) : Nat → Bool := fun c => decide (lo ≤ c) && decide (c ≤ hi)
set_option maxHeartbeats 400000 in
theorem clRange_any (lo hi c a b : Nat) (w : World) (ha : w.cell? ⟨a, 0, none⟩ = some (.int .u8 lo)) (hb : w.cell? ⟨b, 0, none⟩ = some (.int .u8 hi)) :
    Calls Try.prog 125 #[.int .u8 c, .pointer (some ⟨a, 0, none⟩), .pointer (some ⟨b, 0, none⟩)] w (Bs.BPost w (Bs.rng lo hi c)) := by
  unfold Bs.rng
  by_cases h1 : lo ≤ c
  · have d1 : decide ((lo : Int) ≤ (c : Int)) = true := decide_eq_true (by omega)
    have d2 : decide (lo ≤ c) = true := decide_eq_true (by omega)
    go_enter Try.func125, Try.ntmps125
    go_wp2
    go_ret
    exact ⟨Bs.ret_bool (by simp [h1]), Below.refl _ _⟩
  · have d1 : decide ((lo : Int) ≤ (c : Int)) = false := decide_eq_false (by omega)
    have d2 : decide (lo ≤ c) = false := decide_eq_false (by omega)
    go_enter Try.func125, Try.ntmps125
    go_wp2
    go_ret
    exact ⟨Bs.ret_bool (by simp; omega), Below.refl _ _⟩
theorem Bs.ent (K : FuncId) (h : ∀ args w, (callFunc K args).run Try.prog w = .ok (.enter K args) w) : ∀ args w, (callFunc K args).run Try.prog w = .ok (.enter K args) w := h
set_option maxRecDepth 100000 in
set_option maxHeartbeats 1000000 in
theorem rangeB_any (lo hi : Nat) (w : World) : Calls Try.prog 118 #[.int .u8 lo, .int .u8 hi] w fun e w' => e = .returned (Bs.val (Bs.rng lo hi)) ∧ Below w.heap.size w w' := by
  go_enter Try.func118, Try.ntmps118
  go_wp2_with fail
  refine (which_any 125 #[.pointer (some ⟨w.heap.size, 0, none⟩), .pointer (some ⟨w.heap.size + 1, 0, none⟩)] (Bs.rng lo hi) _ (fun _ _ => by kernel_rfl) ?_).mono ?_
  · intro c v hc hv
    refine clRange_any lo hi c _ _ v ?_ ?_
    · refine Bs.cell_up hv ?_; simp [go_sem]
    · refine Bs.cell_up hv ?_; simp [go_sem]
  · rintro e w1 ⟨rfl, hb⟩
    unfold Bs.val
    have hn := Bs.new4 hb
    have eN : ((w.alloc (.cells #[.int .u8 lo] 5)).alloc (.cells #[.int .u8 hi] 5)).heap.size = w.heap.size + 1 + 1 := by simp [go_sem]
    rw [eN] at hn
    obtain ⟨n0, n1, n2, n3, m0, m1, m2, m3⟩ := hn
    have B : Below w.heap.size w w1 := (Bs.below3 w _ _ _).trans (hb.mono (by simp; omega))
    clear eN hb
    go_wp2
    exact bodyPost_ret (v := .agg #[.int .u64 ↑(Bs.word (Bs.rng lo hi) 0), .int .u64 ↑(Bs.word (Bs.rng lo hi) 1), .int .u64 ↑(Bs.word (Bs.rng lo hi) 2), .int .u64 ↑(Bs.word (Bs.rng lo hi) 3)]) (by simp [results, Try.results118, go_sem, n0, n1, n2, n3]) rfl ⟨rfl, Bs.set4 B (by omega) _ _ _ _⟩
/-- the bytes that each of the sets has just if it has c -/
theorem Bs.like_snoc (fs : List (Nat → Bool)) (c k : Nat) (hk : k < fs.length) : (fun d => Bs.alike (fs.take (k + 1)) c d) = fun d => Bs.alike (fs.take k) c d && (fs[k] c == fs[k] d) := by
  funext d
  unfold Bs.alike
  rw [List.take_succ_eq_append_getElem hk, List.all_append]
  simp
end Go.Proofs.Ytigdelfoipcilaa
