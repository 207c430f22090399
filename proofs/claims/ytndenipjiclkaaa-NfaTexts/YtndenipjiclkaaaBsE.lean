/- What Range, like and the closures answer, walked. -/
import Derived.Test.YtndenipjiclkaaaBsD
import Derived.Test.YtndenipjiclkaaaBsK
import Derived.BigQuiet
import Derived.Deep.QuietTactic
namespace Go.Proofs.Ytndenipjiclkaaa
set_option linter.unusedVariables false
set_option linter.unusedSimpArgs false
open Go.RowKit
def Bs.rng (lo hi : Nat) : Nat → Bool := fun c => decide (lo ≤ c) && decide (c ≤ hi)
set_option maxHeartbeats 400000 in
theorem clRange_any (lo hi c a b : Nat) (w : World) (ha : w.cell? ⟨a, 0, none⟩ = some (.int .u8 lo)) (hb : w.cell? ⟨b, 0, none⟩ = some (.int .u8 hi)) :
    Calls Try.prog 131 #[.int .u8 c, .pointer (some ⟨a, 0, none⟩), .pointer (some ⟨b, 0, none⟩)] w (Bs.BPost w (Bs.rng lo hi c)) := by
  unfold Bs.rng
  by_cases h1 : lo ≤ c
  · have d1 : decide ((lo : Int) ≤ (c : Int)) = true := decide_eq_true (by omega)
    have d2 : decide (lo ≤ c) = true := decide_eq_true (by omega)
    go_enter Try.func131, Try.ntmps131
    go_wp2
    go_ret
    exact ⟨Bs.ret_bool (by simp [h1]), Below.refl _ _⟩
  · have d1 : decide ((lo : Int) ≤ (c : Int)) = false := decide_eq_false (by omega)
    have d2 : decide (lo ≤ c) = false := decide_eq_false (by omega)
    go_enter Try.func131, Try.ntmps131
    go_wp2
    go_ret
    exact ⟨Bs.ret_bool (by simp; omega), Below.refl _ _⟩
theorem Bs.ent (K : FuncId) (h : ∀ args w, (callFunc K args).run Try.prog w = .ok (.enter K args) w) : ∀ args w, (callFunc K args).run Try.prog w = .ok (.enter K args) w := h
set_option maxRecDepth 100000 in
set_option maxHeartbeats 1000000 in
theorem rangeB_any (lo hi : Nat) (w : World) : Calls Try.prog 124 #[.int .u8 lo, .int .u8 hi] w fun e w' => e = .returned (Bs.val (Bs.rng lo hi)) ∧ Below w.heap.size w w' := by
  go_enter Try.func124, Try.ntmps124
  go_wp2_with fail
  refine (which_any 131 #[.pointer (some ⟨w.heap.size, 0, none⟩), .pointer (some ⟨w.heap.size + 1, 0, none⟩)] (Bs.rng lo hi) _ (fun _ _ => by kernel_rfl) ?_).mono ?_
  · intro c v hc hv
    refine clRange_any lo hi c _ _ v ?_ ?_
    · refine Bs.cell_up hv ?_; simp [go_sem]
    · refine Bs.cell_up hv ?_; simp [go_sem]
  · rintro e w1 ⟨rfl, hb⟩
    unfold Bs.val
    have hn := Bs.new4 hb
    have eN : ((w.alloc (.cells #[.int .u8 lo] 5)).alloc (.cells #[.int .u8 hi] 5)).heap.size = w.heap.size + 1 + 1 := by simp [go_sem]
    rw [eN] at hn
    obtain ⟨n0, n1, n2, n3, m0, m1, m2, m3⟩ := hn
    have B : Below w.heap.size w w1 := (Bs.below3 w _ _ _).trans (hb.mono (by simp; omega))
    clear eN hb
    go_wp2
    exact bodyPost_ret (v := .agg #[.int .u64 ↑(Bs.word (Bs.rng lo hi) 0), .int .u64 ↑(Bs.word (Bs.rng lo hi) 1), .int .u64 ↑(Bs.word (Bs.rng lo hi) 2), .int .u64 ↑(Bs.word (Bs.rng lo hi) 3)]) (by simp [results, Try.results124, go_sem, n0, n1, n2, n3]) rfl ⟨rfl, Bs.set4 B (by omega) _ _ _ _⟩
/-- the bytes that each of the sets has just if it has c -/
theorem Bs.like_snoc (fs : List (Nat → Bool)) (c k : Nat) (hk : k < fs.length) : (fun d => Bs.alike (fs.take (k + 1)) c d) = fun d => Bs.alike (fs.take k) c d && (fs[k] c == fs[k] d) := by
  funext d
  unfold Bs.alike
  rw [List.take_succ_eq_append_getElem hk, List.all_append]
  simp
set_option maxRecDepth 100000 in
set_option maxHeartbeats 1000000 in
theorem like_any (a : Option Addr) (fs : List (Nat → Bool)) (cap c : Nat) (w : World) (hc : c < 256) (hR : Bs.Row w a fs) (hn : fs.length ≤ 1000000) :
    Calls Try.prog 88 #[.slice a fs.length cap, .int .u8 c] w fun e w' => e = .returned (Bs.val fun d => Bs.alike fs c d) ∧ Below w.heap.size w w' := by
  have HR := Lib.hid hR; clear hR
  go_enter Try.func88, Try.ntmps88
  go_wp2_with fail
  refine (allB_any _).mono ?_
  rintro e v ⟨rfl, hb⟩
  unfold Bs.val
  have Z := (Bs.box_zero w 44).up hb
  have B : Below w.heap.size w v := Bs.below_up (Bs.below1 _ _) hb
  clear hb
  have B1 := Bs.box_new v (fun _ => true) 44
  have B0 := Z.up (Bs.below1 v (.cells #[.int .u64 (Bs.word (fun _ => true) 0), .int .u64 (Bs.word (fun _ => true) 1), .int .u64 (Bs.word (fun _ => true) 2), .int .u64 (Bs.word (fun _ => true) 3)] 44))
  replace B := Bs.below_up B (Bs.below1 v (.cells #[.int .u64 (Bs.word (fun _ => true) 0), .int .u64 (Bs.word (fun _ => true) 1), .int .u64 (Bs.word (fun _ => true) 2), .int .u64 (Bs.word (fun _ => true) 3)] 44))
  have nb : w.heap.size ≠ v.heap.size := Nat.ne_of_lt Z.lt
  have lb : w.heap.size ≤ v.heap.size := Nat.le_of_lt Z.lt
  clear Z
  go_wp2_with fail
  generalize v.alloc (.cells #[.int .u64 (Bs.word (fun _ => true) 0), .int .u64 (Bs.word (fun _ => true) 1), .int .u64 (Bs.word (fun _ => true) 2), .int .u64 (Bs.word (fun _ => true) 3)] 44) = W at *
  generalize v.heap.size = N at *
  have e0 : (fun _ => true) = fun d => Bs.alike (fs.take 0) c d := by funext d; simp [Bs.alike]
  rw [e0] at B1; clear e0
  go_loopw [11] (fun i wr => ∃ k : Nat, k ≤ fs.length ∧ i = .int .i64 k ∧ Bs.Box wr N (fun d => Bs.alike (fs.take k) c d) ∧ Bs.Box wr w.heap.size (fun _ => false) ∧ Below w.heap.size w wr) (fun i _ => fs.length - (intOf i).toNat)
  case atStart => exact ⟨0, Nat.zero_le _, rfl, B1, B0, B⟩
  case round =>
    clear B0 B1 B
    obtain ⟨k, hk, rfl, B1, B0, B⟩ := hrel
    by_cases hlt : k < fs.length
    · obtain ⟨x, rfl, hx⟩ := HR.out k hlt
      replace hx := hx.up B
      obtain ⟨x0, x1, x2, x3⟩ := hx
      have hsn := Bs.like_snoc fs c k hlt
      have HSN := Lib.hid hsn; clear hsn
      have A := Bs.below1 wr (.cells #[.int .u64 ↑(Bs.word fs[k] 0), .int .u64 ↑(Bs.word fs[k] 1), .int .u64 ↑(Bs.word fs[k] 2), .int .u64 ↑(Bs.word fs[k] 3)] 44)
      have Y := Bs.box_new wr fs[k] 44
      have lN := B1.lt
      replace B1 := B1.up A
      replace B0 := B0.up A
      replace B := Bs.below_up B A
      have nY : N ≠ wr.heap.size := Nat.ne_of_lt lN
      have y0 := Y.cell 0 (by decide); have y1 := Y.cell 1 (by decide); have y2 := Y.cell 2 (by decide); have y3 := Y.cell 3 (by decide)
      go_wp2_with fail
      refine (hasB_any fs[k] c hc _).mono ?_
      rintro e v1 ⟨rfl, hb1⟩
      clear y0 y1 y2 y3 x0 x1 x2 x3
      replace B1 := B1.up hb1
      replace B0 := B0.up hb1
      replace Y := Y.up hb1
      replace B := Bs.below_up B hb1
      have y0 := Y.cell 0 (by decide); have y1 := Y.cell 1 (by decide); have y2 := Y.cell 2 (by decide); have y3 := Y.cell 3 (by decide)
      have b0 := B1.cell 0 (by decide); have b1 := B1.cell 1 (by decide); have b2 := B1.cell 2 (by decide); have b3 := B1.cell 3 (by decide)
      rcases Bool.eq_false_or_eq_true (fs[k] c) with hf | hf
      · go_wp2_with fail
        refine (andB_any (fun d => Bs.alike (fs.take k) c d) fs[k] _).mono ?_
        rintro e v2 ⟨rfl, hb2⟩
        unfold Bs.val
        clear y0 y1 y2 y3 b0 b1 b2 b3
        replace B1 := B1.up hb2
        replace B0 := B0.up hb2
        replace B := Bs.below_up B hb2
        have b0 := B1.cell 0 (by decide); have b1 := B1.cell 1 (by decide); have b2 := B1.cell 2 (by decide); have b3 := B1.cell 3 (by decide)
        have g0 := B1.frz 0 (by decide); have g1 := B1.frz 1 (by decide); have g2 := B1.frz 2 (by decide); have g3 := B1.frz 3 (by decide)
        have HF := Lib.hid hf; clear hf
        go_wp2_with fail
        go_roundw
        case rel =>
          refine ⟨k + 1, by omega, by go_num, ?_, B0.far4 (Ne.symm nb) _ _ _ _, Bs.set4 B lb _ _ _ _⟩
          rw [HSN.out]
          have e2 : (fun d => Bs.alike (fs.take k) c d && (fs[k] c == fs[k] d)) = fun d => Bs.alike (fs.take k) c d && fs[k] d := by
            funext d; rw [HF.out]; simp
          rw [e2]
          exact B1.write _
        case measure => simp [intOf]; omega
      · go_wp2_with fail
        refine (lessB_any (fun d => Bs.alike (fs.take k) c d) fs[k] _).mono ?_
        rintro e v2 ⟨rfl, hb2⟩
        unfold Bs.val
        clear y0 y1 y2 y3 b0 b1 b2 b3
        replace B1 := B1.up hb2
        replace B0 := B0.up hb2
        replace B := Bs.below_up B hb2
        have b0 := B1.cell 0 (by decide); have b1 := B1.cell 1 (by decide); have b2 := B1.cell 2 (by decide); have b3 := B1.cell 3 (by decide)
        have g0 := B1.frz 0 (by decide); have g1 := B1.frz 1 (by decide); have g2 := B1.frz 2 (by decide); have g3 := B1.frz 3 (by decide)
        have HF := Lib.hid hf; clear hf
        go_wp2_with fail
        go_roundw
        case rel =>
          refine ⟨k + 1, by omega, by go_num, ?_, B0.far4 (Ne.symm nb) _ _ _ _, Bs.set4 B lb _ _ _ _⟩
          rw [HSN.out]
          have e2 : (fun d => Bs.alike (fs.take k) c d && (fs[k] c == fs[k] d)) = fun d => Bs.alike (fs.take k) c d && !fs[k] d := by
            funext d; rw [HF.out]; simp
          rw [e2]
          exact B1.write _
        case measure => simp [intOf]; omega
    · have e1 : fs.take k = fs := List.take_of_length_le (by omega)
      rw [e1] at B1
      clear e1
      have b0 := B1.cell 0 (by decide); have b1 := B1.cell 1 (by decide); have b2 := B1.cell 2 (by decide); have b3 := B1.cell 3 (by decide)
      have z0 := B0.cell 0 (by decide); have z1 := B0.cell 1 (by decide); have z2 := B0.cell 2 (by decide); have z3 := B0.cell 3 (by decide)
      have g0 := B0.frz 0 (by decide); have g1 := B0.frz 1 (by decide); have g2 := B0.frz 2 (by decide); have g3 := B0.frz 3 (by decide)
      go_wp2_with fail
      exact bodyPost_ret (v := .agg #[.int .u64 ↑(Bs.word (fun d => Bs.alike fs c d) 0), .int .u64 ↑(Bs.word (fun d => Bs.alike fs c d) 1), .int .u64 ↑(Bs.word (fun d => Bs.alike fs c d) 2), .int .u64 ↑(Bs.word (fun d => Bs.alike fs c d) 3)]) (by simp [results, Try.results88, go_sem, z0, z1, z2, z3]) rfl ⟨rfl, Bs.set4 B (Nat.le_refl _) _ _ _ _⟩
end Go.Proofs.Ytndenipjiclkaaa
