/- What Of, which, Range and the closures answer, walked. -/
import Derived.Test.YtndenipjiclkaaaBsC
import Derived.StillTailTactics
import Derived.Deep.LoopGhost
namespace Go.Proofs.Ytndenipjiclkaaa
set_option linter.unusedVariables false
set_option linter.unusedSimpArgs false
open Go.RowKit
/-- the slice's cells are the bytes -/
def Bs.Byt (w : World) (a : Option Addr) (zs : List Nat) : Prop := ∀ i (h : i < zs.length), ∃ x, a = some x ∧ w.cell? (x.add i) = some (.int .u8 (zs[i] : Nat))
theorem Bs.Byt.up {w w' : World} {a : Option Addr} {zs : List Nat} (h : Bs.Byt w a zs) (hb : Below w.heap.size w w') : Bs.Byt w' a zs := fun i hi => by
  obtain ⟨x, e, h⟩ := h i hi
  exact ⟨x, e, Bs.cell_up hb h⟩
/-- the bytes of a list -/
def Bs.ofL (zs : List Nat) : Nat → Bool := fun c => zs.any fun z => c == z
theorem Bs.ofL_snoc (zs : List Nat) (k : Nat) (hk : k < zs.length) : Bs.ofL (zs.take (k + 1)) = fun c => Bs.ofL (zs.take k) c || c == zs[k] := by
  funext c
  unfold Bs.ofL
  rw [List.take_succ_eq_append_getElem hk, List.any_append]
  simp
theorem Bs.pow_wrap (k : Nat) (hk : k < 64) : IntKind.u64.wrap ((2 : Int) ^ k) = ((2 ^ k : Nat) : Int) := by
  have h := Bs.wrap_nat (Bs.pow_lt hk)
  rw [← h]; simp
theorem Bs.put_i (f : Nat → Bool) (c : Nat) : bits .or .u64 (Bs.word f (c / 64)) (IntKind.u64.wrap (2 ^ (c % 64))) = (Bs.word (fun d => f d || d == c) (c / 64) : Int) := by
  have hk : c % 64 < 64 := by omega
  rw [Bs.pow_wrap _ hk, u64_or_nat _ _ (Bs.word_lt f _) (Bs.pow_lt hk), Bs.word_put f _ _ hk]
  have e : 64 * (c / 64) + c % 64 = c := by omega
  rw [e]
theorem Bs.put_far (f : Nat → Bool) (c j : Nat) (hj : j ≠ c / 64) : Bs.word (fun d => f d || d == c) j = Bs.word f j := by
  have h := Bs.word_far f (c / 64) j (c % 64) (by omega) (Ne.symm hj)
  have e : 64 * (c / 64) + c % 64 = c := by omega
  rw [e] at h
  exact h
set_option maxRecDepth 100000 in
set_option maxHeartbeats 1000000 in
theorem ofB_any (a : Option Addr) (zs : List Nat) (cap : Nat) (w : World) (hR : Bs.Byt w a zs) (hz : ∀ z ∈ zs, z < 256) (hn : zs.length ≤ 1000000) :
    Calls Try.prog 125 #[.slice a zs.length cap] w fun e w' => e = .returned (Bs.val (Bs.ofL zs)) ∧ Below w.heap.size w w' := by
  have HR := Lib.hid hR; clear hR
  have HZ := Lib.hid hz; clear hz
  go_enter Try.func125, Try.ntmps125
  go_wp2_with fail
  have B0 := (Bs.box_zero w 44).up (Bs.below1 _ (.cells #[.int .u64 0, .int .u64 0, .int .u64 0, .int .u64 0] 44))
  have B1 := Bs.box_zero (w.alloc (.cells #[.int .u64 0, .int .u64 0, .int .u64 0, .int .u64 0] 44)) 44
  have eN : (w.alloc (.cells #[.int .u64 0, .int .u64 0, .int .u64 0, .int .u64 0] 44)).heap.size = w.heap.size + 1 := by simp [go_sem]
  rw [eN] at B1
  have B : Below w.heap.size w ((w.alloc (.cells #[.int .u64 0, .int .u64 0, .int .u64 0, .int .u64 0] 44)).alloc (.cells #[.int .u64 0, .int .u64 0, .int .u64 0, .int .u64 0] 44)) := Bs.below2 _ _ _
  clear eN
  generalize (w.alloc (.cells #[.int .u64 0, .int .u64 0, .int .u64 0, .int .u64 0] 44)).alloc (.cells #[.int .u64 0, .int .u64 0, .int .u64 0, .int .u64 0] 44) = W at *
  go_loopw [8] (fun i wr => ∃ k : Nat, k ≤ zs.length ∧ i = .int .i64 k ∧ Bs.Box wr (w.heap.size + 1) (Bs.ofL (zs.take k)) ∧ Bs.Box wr w.heap.size (fun _ => false) ∧ Below w.heap.size w wr) (fun i _ => zs.length - (intOf i).toNat)
  case atStart => exact ⟨0, Nat.zero_le _, rfl, B1, B0, B⟩
  case round =>
    clear B0 B1 B
    obtain ⟨k, hk, rfl, B1, B0, B⟩ := hrel
    have n1 : w.heap.size ≠ w.heap.size + 1 := by omega
    have m1 : w.heap.size ≤ w.heap.size + 1 := by omega
    by_cases hlt : k < zs.length
    · obtain ⟨x, rfl, hx⟩ := HR.out k hlt
      replace hx := Bs.cell_up B hx
      have hc := HZ.out zs[k] (List.getElem_mem hlt)
      have hsn := Bs.ofL_snoc zs k hlt
      have HSN := Lib.hid hsn; clear hsn
      generalize zs[k] = c at *
      have hi : c / 64 < 4 := by omega
      have b0 := B1.cell (c / 64) hi
      have g0 := B1.frz (c / 64) hi
      have p0 := Bs.put_i (Bs.ofL (zs.take k)) c
      have P0 := Lib.hid p0; clear p0
      go_wp2_with fail
      go_roundw
      case rel =>
        refine ⟨k + 1, by omega, by go_num, ?_, B0.far (Ne.symm n1) _, B.setCell m1 _⟩
        rw [HSN.out, P0.out]
        exact B1.put hi fun j _ hj => Bs.put_far _ c j hj
      case measure => simp [intOf]; omega
    · have e1 : zs.take k = zs := List.take_of_length_le (by omega)
      rw [e1] at B1
      clear e1
      have b0 := B1.cell 0 (by decide); have b1 := B1.cell 1 (by decide); have b2 := B1.cell 2 (by decide); have b3 := B1.cell 3 (by decide)
      have z0 := B0.cell 0 (by decide); have z1 := B0.cell 1 (by decide); have z2 := B0.cell 2 (by decide); have z3 := B0.cell 3 (by decide)
      have g0 := B0.frz 0 (by decide); have g1 := B0.frz 1 (by decide); have g2 := B0.frz 2 (by decide); have g3 := B0.frz 3 (by decide)
      go_wp2_with fail
      exact bodyPost_ret (v := .agg #[.int .u64 ↑(Bs.word (Bs.ofL zs) 0), .int .u64 ↑(Bs.word (Bs.ofL zs) 1), .int .u64 ↑(Bs.word (Bs.ofL zs) 2), .int .u64 ↑(Bs.word (Bs.ofL zs) 3)]) (by simp [results, Try.results125, go_sem, z0, z1, z2, z3]) rfl ⟨rfl, Bs.set4 B (Nat.le_refl _) _ _ _ _⟩
theorem Bs.put_k (f : Nat → Bool) (i k : Nat) (hk : k < 64) : bits .or .u64 (Bs.word f i) (IntKind.u64.wrap (2 ^ k)) = (Bs.word (fun d => f d || d == 64 * i + k) i : Int) := by
  rw [Bs.pow_wrap _ hk, u64_or_nat _ _ (Bs.word_lt f _) (Bs.pow_lt hk), Bs.word_put f _ _ hk]
/-- of the bytes below n those of which g holds -/
def Bs.upto (g : Nat → Bool) (n : Nat) : Nat → Bool := fun c => decide (c < n) && g c
theorem Bs.upto_yes {g : Nat → Bool} {n : Nat} (h : g n = true) : Bs.upto g (n + 1) = fun c => Bs.upto g n c || c == n := by
  funext c
  unfold Bs.upto
  by_cases hc : c = n
  · subst hc; simp [h]
  · have : (c < n + 1) = (c < n) := propext (by omega)
    simp [this, hc]
theorem Bs.upto_no {g : Nat → Bool} {n : Nat} (h : g n = false) : Bs.upto g (n + 1) = Bs.upto g n := by
  funext c
  unfold Bs.upto
  by_cases hc : c = n
  · subst hc; simp [h]
  · have : (c < n + 1) = (c < n) := propext (by omega)
    simp [this]
theorem Bs.upto_zero (g : Nat → Bool) : Bs.upto g 0 = fun _ => false := by funext c; simp [Bs.upto]
theorem Bs.upto_all (g : Nat → Bool) (i : Nat) (hi : i < 4) : Bs.word (Bs.upto g 256) i = Bs.word g i := Bs.word_congr fun k hk => by
  have : 64 * i + k < 256 := by omega
  simp [Bs.upto, this]
/-- what a closure answers -/
def Bs.BPost (w : World) (b : Bool) (e : Ending) (w' : World) : Prop := e = .returned (.bool b) ∧ Below w.heap.size w w'
set_option maxRecDepth 100000 in
set_option maxHeartbeats 2000000 in
theorem which_any (K : FuncId) (cap : Array Value) (g : Nat → Bool) (w : World) (hent : ∀ args w, (callFunc K args).run Try.prog w = .ok (.enter K args) w)
    (hQ : ∀ (c : Nat) (v : World), c < 256 → Below w.heap.size w v → Calls Try.prog K (#[.int .u8 c] ++ cap) v (Bs.BPost v (g c))) :
    Calls Try.prog 130 #[.func (.func K) #[] cap] w fun e w' => e = .returned (Bs.val g) ∧ Below w.heap.size w w' := by
  have HQ := Lib.hid hQ; clear hQ
  go_enter Try.func130, Try.ntmps130
  go_wp2_with fail
  have B0 := (Bs.box_zero w 44).up (Bs.below1 _ (.cells #[.int .u64 0, .int .u64 0, .int .u64 0, .int .u64 0] 44))
  have B1 := Bs.box_zero (w.alloc (.cells #[.int .u64 0, .int .u64 0, .int .u64 0, .int .u64 0] 44)) 44
  have eN : (w.alloc (.cells #[.int .u64 0, .int .u64 0, .int .u64 0, .int .u64 0] 44)).heap.size = w.heap.size + 1 := by simp [go_sem]
  rw [eN] at B1
  have B : Below w.heap.size w ((w.alloc (.cells #[.int .u64 0, .int .u64 0, .int .u64 0, .int .u64 0] 44)).alloc (.cells #[.int .u64 0, .int .u64 0, .int .u64 0, .int .u64 0] 44)) := Bs.below2 _ _ _
  clear eN
  generalize (w.alloc (.cells #[.int .u64 0, .int .u64 0, .int .u64 0, .int .u64 0] 44)).alloc (.cells #[.int .u64 0, .int .u64 0, .int .u64 0, .int .u64 0] 44) = W at *
  rw [← Bs.upto_zero g] at B1
  go_loopw [6] (fun s wr => ∃ i : Nat, i ≤ 4 ∧ s = .int .i64 i ∧ Bs.Box wr (w.heap.size + 1) (Bs.upto g (64 * i)) ∧ Bs.Box wr w.heap.size (fun _ => false) ∧ Below w.heap.size w wr) (fun s _ => 4 - (intOf s).toNat)
  case atStart => exact ⟨0, by omega, rfl, B1, B0, B⟩
  case round =>
    clear B0 B1 B
    obtain ⟨i, hi, rfl, B1, B0, B⟩ := hrel
    have n1 : w.heap.size ≠ w.heap.size + 1 := by omega
    have m1 : w.heap.size ≤ w.heap.size + 1 := by omega
    by_cases hlt : i < 4
    · have hd : decide ((i : Int) < 4) = true := decide_eq_true (by omega)
      go_wp2_with fail
      go_loopw [9] (fun s wr => ∃ k : Nat, k ≤ 64 ∧ s = .int .i64 k ∧ Bs.Box wr (w.heap.size + 1) (Bs.upto g (64 * i + k)) ∧ Bs.Box wr w.heap.size (fun _ => false) ∧ Below w.heap.size w wr) (fun s _ => 64 - (intOf s).toNat)
      case atStart => exact ⟨0, by omega, rfl, B1, B0, B⟩
      case round =>
        clear B0 B1 B
        obtain ⟨k, hk, rfl, B1, B0, B⟩ := hrel
        by_cases hlk : k < 64
        · have hc : 64 * i + k < 256 := by omega
          go_wp2_with fail
          refine (HQ.out (64 * i + k) _ hc B).mono ?_
          rintro e v ⟨rfl, hbv⟩
          replace B1 := B1.up hbv
          replace B0 := B0.up hbv
          replace B := Bs.below_up B hbv
          have b0 := B1.cell i hlt
          have g0 := B1.frz i hlt
          rcases Bool.eq_false_or_eq_true (g (64 * i + k)) with hg | hg
          · have hup := Bs.upto_yes hg
            have HUP := Lib.hid hup; clear hup
            have P0 := Lib.hid (Bs.put_k (Bs.upto g (64 * i + k)) i k hlk)
            go_wp2_with fail
            have k1 : (0 : Int) ≤ (i : Int) := by omega
            have k2 : (i : Int) < 4 := by omega
            have k3 : (0 : Int) ≤ (k : Int) := by omega
            have k4 : (k : Int) < 64 := by omega
            go_still_tail 7, (by kernel_rfl)
            change wpList _ _ _ _ _ v.drew
            replace B1 := B1.drew
            replace B0 := B0.drew
            replace B := B.drew
            clear b0 g0
            generalize v.drew = v2 at *
            have b0 := B1.cell i hlt
            have g0 := B1.frz i hlt
            go_wp2_with fail
            go_roundw
            case rel =>
              refine ⟨k + 1, by omega, by go_num, ?_, B0.far (Ne.symm n1) _, B.setCell m1 _⟩
              rw [← Nat.add_assoc, HUP.out, P0.out]
              exact B1.put hlt fun j _ hj => Bs.word_far _ _ _ _ hlk (Ne.symm hj)
            case measure => simp [intOf]; omega
          · have hup := Bs.upto_no hg
            have HUP := Lib.hid hup; clear hup
            go_wp2_with fail
            go_roundw
            case rel =>
              refine ⟨k + 1, by omega, by go_num, ?_, B0, B⟩
              rw [← Nat.add_assoc, HUP.out]
              exact B1
            case measure => simp [intOf]; omega
        · go_wp2_with fail
          go_roundw
          case rel =>
            refine ⟨i + 1, by omega, by go_num, ?_, B0, B⟩
            have e1 : k = 64 := by omega
            have e2 : 64 * (i + 1) = 64 * i + k := by omega
            rw [e2]; exact B1
          case measure => simp [intOf]; omega
    · have e1 : 64 * i = 256 := by omega
      rw [e1] at B1
      clear e1
      have b0 := B1.cell 0 (by decide); have b1 := B1.cell 1 (by decide); have b2 := B1.cell 2 (by decide); have b3 := B1.cell 3 (by decide)
      rw [Bs.upto_all g _ (by decide)] at b0 b1 b2 b3
      have z0 := B0.cell 0 (by decide); have z1 := B0.cell 1 (by decide); have z2 := B0.cell 2 (by decide); have z3 := B0.cell 3 (by decide)
      have g0 := B0.frz 0 (by decide); have g1 := B0.frz 1 (by decide); have g2 := B0.frz 2 (by decide); have g3 := B0.frz 3 (by decide)
      go_wp2_with fail
      exact bodyPost_ret (v := .agg #[.int .u64 ↑(Bs.word g 0), .int .u64 ↑(Bs.word g 1), .int .u64 ↑(Bs.word g 2), .int .u64 ↑(Bs.word g 3)]) (by simp [results, Try.results130, go_sem, z0, z1, z2, z3]) rfl ⟨rfl, Bs.set4 B (Nat.le_refl _) _ _ _ _⟩
end Go.Proofs.Ytndenipjiclkaaa
