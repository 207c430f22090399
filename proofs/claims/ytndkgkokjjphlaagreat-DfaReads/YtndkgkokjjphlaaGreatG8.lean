/- What Of, which, Range and the closures answer, walked. The classes of some sets: plain facts. What Range, like and the closures answer, walked. The program's reader of expressions: what at, sign, escaped, meant, member and item answer, walked. The document's reader of signs: what special, escape and bound answer, walked. The document's reader of signs: what escape and bound answer, walked. The document's reader of signs: expressions stay while it reads. What the document's one and several answer, walked. What the document's capped answers, walked. -/
import Derived.Test.YtndkgkokjjphlaaGreatG3
import Derived.StillTailTactics
import Derived.Deep.LoopGhost
import Derived.BigQuiet
import Derived.Deep.QuietTactic
import Derived.Test.YtndkgkokjjphlaaGreatG7
import Derived.Test.YtndkgkokjjphlaaGreatShelf
namespace Go.Proofs.YtndkgkokjjphlaaGreat
set_option linter.unusedVariables false
set_option linter.unusedSimpArgs false
open Go.RowKit
def Bs.Byt (w : World) (a : Option Addr) (zs : List Nat) : Prop := ∀ i (h : i < zs.length), ∃ x, a = some x ∧ w.cell? (x.add i) = some (.int .u8 (zs[i] : Nat))
theorem Bs.Byt.up {w w' : World} {a : Option Addr} {zs : List Nat} (h : Bs.Byt w a zs) (hb : Below w.heap.size w w') : Bs.Byt w' a zs := fun i hi => by
  obtain ⟨x, e, h⟩ := h i hi
  exact ⟨x, e, Bs.cell_up hb h⟩
def Bs.ofL (zs : List Nat) : Nat → Bool := fun c => zs.any fun z => c == z
theorem Bs.ofL_snoc (zs : List Nat) (k : Nat) (hk : k < zs.length) : Bs.ofL (zs.take (k + 1)) = fun c => Bs.ofL (zs.take k) c || c == zs[k] := by
  funext c
  unfold Bs.ofL
  rw [List.take_succ_eq_append_getElem hk, List.any_append]
  simp
theorem Bs.pow_wrap (k : Nat) (hk : k < 64) : IntKind.u64.wrap ((2 : Int) ^ k) = ((2 ^ k : Nat) : Int) := by
  have h := Bs.wrap_nat (Bs.pow_lt hk)
  rw [← h]; simp
theorem Bs.put_i (f : Nat → Bool) (c : Nat) : bits .or .u64 (Bs.word f (c / 64)) (IntKind.u64.wrap (2 ^ (c % 64))) = (Bs.word (fun d => f d || d == c) (c / 64) : Int) := by
  have hk : c % 64 < 64 := by omega
  rw [Bs.pow_wrap _ hk, u64_or_nat _ _ (Bs.word_lt f _) (Bs.pow_lt hk), Bs.word_put f _ _ hk]
  have e : 64 * (c / 64) + c % 64 = c := by omega
  rw [e]
theorem Bs.put_far (f : Nat → Bool) (c j : Nat) (hj : j ≠ c / 64) : Bs.word (fun d => f d || d == c) j = Bs.word f j := by
  have h := Bs.word_far f (c / 64) j (c % 64) (by omega) (Ne.symm hj)
  have e : 64 * (c / 64) + c % 64 = c := by omega
  rw [e] at h
  exact h
set_option maxRecDepth 100000 in
set_option maxHeartbeats 1000000 in
theorem ofB_any (a : Option Addr) (zs : List Nat) (cap : Nat) (w : World) (hR : Bs.Byt w a zs) (hz : ∀ z ∈ zs, z < 256) (hn : zs.length ≤ 1000000) :
    Calls Tryz.prog 134 #[.slice a zs.length cap] w fun e w' => e = .returned (Bs.val (Bs.ofL zs)) ∧ Below w.heap.size w w' := by
  have HR := Lib.hid hR; clear hR
  have HZ := Lib.hid hz; clear hz
  go_enter Tryz.func134, Tryz.ntmps134
  go_wp2_with fail
  have B0 := (Bs.box_zero w 55).up (Bs.below1 _ (.cells #[.int .u64 0, .int .u64 0, .int .u64 0, .int .u64 0] 55))
  have B1 := Bs.box_zero (w.alloc (.cells #[.int .u64 0, .int .u64 0, .int .u64 0, .int .u64 0] 55)) 55
  have eN : (w.alloc (.cells #[.int .u64 0, .int .u64 0, .int .u64 0, .int .u64 0] 55)).heap.size = w.heap.size + 1 := by simp [go_sem]
  rw [eN] at B1
  have B : Below w.heap.size w ((w.alloc (.cells #[.int .u64 0, .int .u64 0, .int .u64 0, .int .u64 0] 55)).alloc (.cells #[.int .u64 0, .int .u64 0, .int .u64 0, .int .u64 0] 55)) := Bs.below2 _ _ _
  clear eN
  generalize (w.alloc (.cells #[.int .u64 0, .int .u64 0, .int .u64 0, .int .u64 0] 55)).alloc (.cells #[.int .u64 0, .int .u64 0, .int .u64 0, .int .u64 0] 55) = W at *
  go_loopw [8] (fun i wr => ∃ k : Nat, k ≤ zs.length ∧ i = .int .i64 k ∧ Bs.Box wr (w.heap.size + 1) (Bs.ofL (zs.take k)) ∧ Bs.Box wr w.heap.size (fun _ => false) ∧ Below w.heap.size w wr) (fun i _ => zs.length - (intOf i).toNat)
  case atStart => exact ⟨0, Nat.zero_le _, rfl, B1, B0, B⟩
  case round =>
    clear B0 B1 B
    obtain ⟨k, hk, rfl, B1, B0, B⟩ := hrel
    have n1 : w.heap.size ≠ w.heap.size + 1 := by omega
    have m1 : w.heap.size ≤ w.heap.size + 1 := by omega
    by_cases hlt : k < zs.length
    · obtain ⟨x, rfl, hx⟩ := HR.out k hlt
      replace hx := Bs.cell_up B hx
      have hc := HZ.out zs[k] (List.getElem_mem hlt)
      have hsn := Bs.ofL_snoc zs k hlt
      have HSN := Lib.hid hsn; clear hsn
      generalize zs[k] = c at *
      have hi : c / 64 < 4 := by omega
      have b0 := B1.cell (c / 64) hi
      have g0 := B1.frz (c / 64) hi
      have p0 := Bs.put_i (Bs.ofL (zs.take k)) c
      have P0 := Lib.hid p0; clear p0
      go_wp2_with fail
      go_roundw
      case rel =>
        refine ⟨k + 1, by omega, by go_num, ?_, B0.far (Ne.symm n1) _, B.setCell m1 _⟩
        rw [HSN.out, P0.out]
        exact B1.put hi fun j _ hj => Bs.put_far _ c j hj
      case measure => simp [intOf]; omega
    · have e1 : zs.take k = zs := List.take_of_length_le (by omega)
      rw [e1] at B1
      clear e1
      have b0 := B1.cell 0 (by decide); have b1 := B1.cell 1 (by decide); have b2 := B1.cell 2 (by decide); have b3 := B1.cell 3 (by decide)
      have z0 := B0.cell 0 (by decide); have z1 := B0.cell 1 (by decide); have z2 := B0.cell 2 (by decide); have z3 := B0.cell 3 (by decide)
      have g0 := B0.frz 0 (by decide); have g1 := B0.frz 1 (by decide); have g2 := B0.frz 2 (by decide); have g3 := B0.frz 3 (by decide)
      go_wp2_with fail
      exact bodyPost_ret (v := .agg #[.int .u64 ↑(Bs.word (Bs.ofL zs) 0), .int .u64 ↑(Bs.word (Bs.ofL zs) 1), .int .u64 ↑(Bs.word (Bs.ofL zs) 2), .int .u64 ↑(Bs.word (Bs.ofL zs) 3)]) (by simp [results, Tryz.results134, go_sem, z0, z1, z2, z3]) rfl ⟨rfl, Bs.set4 B (Nat.le_refl _) _ _ _ _⟩
theorem Bs.put_k (f : Nat → Bool) (i k : Nat) (hk : k < 64) : bits .or .u64 (Bs.word f i) (IntKind.u64.wrap (2 ^ k)) = (Bs.word (fun d => f d || d == 64 * i + k) i : Int) := by
  rw [Bs.pow_wrap _ hk, u64_or_nat _ _ (Bs.word_lt f _) (Bs.pow_lt hk), Bs.word_put f _ _ hk]
def Bs.upto (g : Nat → Bool) (n : Nat) : Nat → Bool := fun c => decide (c < n) && g c
theorem Bs.upto_yes {g : Nat → Bool} {n : Nat} (h : g n = true) : Bs.upto g (n + 1) = fun c => Bs.upto g n c || c == n := by
  funext c
  unfold Bs.upto
  by_cases hc : c = n
  · subst hc; simp [h]
  · have : (c < n + 1) = (c < n) := propext (by omega)
    simp [this, hc]
theorem Bs.upto_no {g : Nat → Bool} {n : Nat} (h : g n = false) : Bs.upto g (n + 1) = Bs.upto g n := by
  funext c
  unfold Bs.upto
  by_cases hc : c = n
  · subst hc; simp [h]
  · have : (c < n + 1) = (c < n) := propext (by omega)
    simp [this]
theorem Bs.upto_zero (g : Nat → Bool) : Bs.upto g 0 = fun _ => false := by funext c; simp [Bs.upto]
theorem Bs.upto_all (g : Nat → Bool) (i : Nat) (hi : i < 4) : Bs.word (Bs.upto g 256) i = Bs.word g i := Bs.word_congr fun k hk => by
  have : 64 * i + k < 256 := by omega
  simp [Bs.upto, this]
def Bs.BPost (w : World) (b : Bool) (e : Ending) (w' : World) : Prop := e = .returned (.bool b) ∧ Below w.heap.size w w'
set_option maxRecDepth 100000 in
set_option maxHeartbeats 2000000 in
theorem which_any (K : FuncId) (cap : Array Value) (g : Nat → Bool) (w : World) (hent : ∀ args w, (callFunc K args).run Tryz.prog w = .ok (.enter K args) w)
    (hQ : ∀ (c : Nat) (v : World), c < 256 → Below w.heap.size w v → Calls Tryz.prog K (#[.int .u8 c] ++ cap) v (Bs.BPost v (g c))) :
    Calls Tryz.prog 139 #[.func (.func K) #[] cap] w fun e w' => e = .returned (Bs.val g) ∧ Below w.heap.size w w' := by
  have HQ := Lib.hid hQ; clear hQ
  go_enter Tryz.func139, Tryz.ntmps139
  go_wp2_with fail
  have B0 := (Bs.box_zero w 55).up (Bs.below1 _ (.cells #[.int .u64 0, .int .u64 0, .int .u64 0, .int .u64 0] 55))
  have B1 := Bs.box_zero (w.alloc (.cells #[.int .u64 0, .int .u64 0, .int .u64 0, .int .u64 0] 55)) 55
  have eN : (w.alloc (.cells #[.int .u64 0, .int .u64 0, .int .u64 0, .int .u64 0] 55)).heap.size = w.heap.size + 1 := by simp [go_sem]
  rw [eN] at B1
  have B : Below w.heap.size w ((w.alloc (.cells #[.int .u64 0, .int .u64 0, .int .u64 0, .int .u64 0] 55)).alloc (.cells #[.int .u64 0, .int .u64 0, .int .u64 0, .int .u64 0] 55)) := Bs.below2 _ _ _
  clear eN
  generalize (w.alloc (.cells #[.int .u64 0, .int .u64 0, .int .u64 0, .int .u64 0] 55)).alloc (.cells #[.int .u64 0, .int .u64 0, .int .u64 0, .int .u64 0] 55) = W at *
  rw [← Bs.upto_zero g] at B1
  go_loopw [6] (fun s wr => ∃ i : Nat, i ≤ 4 ∧ s = .int .i64 i ∧ Bs.Box wr (w.heap.size + 1) (Bs.upto g (64 * i)) ∧ Bs.Box wr w.heap.size (fun _ => false) ∧ Below w.heap.size w wr) (fun s _ => 4 - (intOf s).toNat)
  case atStart => exact ⟨0, by omega, rfl, B1, B0, B⟩
  case round =>
    clear B0 B1 B
    obtain ⟨i, hi, rfl, B1, B0, B⟩ := hrel
    have n1 : w.heap.size ≠ w.heap.size + 1 := by omega
    have m1 : w.heap.size ≤ w.heap.size + 1 := by omega
    by_cases hlt : i < 4
    · have hd : decide ((i : Int) < 4) = true := decide_eq_true (by omega)
      go_wp2_with fail
      go_loopw [9] (fun s wr => ∃ k : Nat, k ≤ 64 ∧ s = .int .i64 k ∧ Bs.Box wr (w.heap.size + 1) (Bs.upto g (64 * i + k)) ∧ Bs.Box wr w.heap.size (fun _ => false) ∧ Below w.heap.size w wr) (fun s _ => 64 - (intOf s).toNat)
      case atStart => exact ⟨0, by omega, rfl, B1, B0, B⟩
      case round =>
        clear B0 B1 B
        obtain ⟨k, hk, rfl, B1, B0, B⟩ := hrel
        by_cases hlk : k < 64
        · have hc : 64 * i + k < 256 := by omega
          go_wp2_with fail
          refine (HQ.out (64 * i + k) _ hc B).mono ?_
          rintro e v ⟨rfl, hbv⟩
          replace B1 := B1.up hbv
          replace B0 := B0.up hbv
          replace B := Bs.below_up B hbv
          have b0 := B1.cell i hlt
          have g0 := B1.frz i hlt
          rcases Bool.eq_false_or_eq_true (g (64 * i + k)) with hg | hg
          · have hup := Bs.upto_yes hg
            have HUP := Lib.hid hup; clear hup
            have P0 := Lib.hid (Bs.put_k (Bs.upto g (64 * i + k)) i k hlk)
            go_wp2_with fail
            have k1 : (0 : Int) ≤ (i : Int) := by omega
            have k2 : (i : Int) < 4 := by omega
            have k3 : (0 : Int) ≤ (k : Int) := by omega
            have k4 : (k : Int) < 64 := by omega
            go_still_tail 7, (by kernel_rfl)
            change wpList _ _ _ _ _ v.drew
            replace B1 := B1.drew
            replace B0 := B0.drew
            replace B := B.drew
            clear b0 g0
            generalize v.drew = v2 at *
            have b0 := B1.cell i hlt
            have g0 := B1.frz i hlt
            go_wp2_with fail
            go_roundw
            case rel =>
              refine ⟨k + 1, by omega, by go_num, ?_, B0.far (Ne.symm n1) _, B.setCell m1 _⟩
              rw [← Nat.add_assoc, HUP.out, P0.out]
              exact B1.put hlt fun j _ hj => Bs.word_far _ _ _ _ hlk (Ne.symm hj)
            case measure => simp [intOf]; omega
          · have hup := Bs.upto_no hg
            have HUP := Lib.hid hup; clear hup
            go_wp2_with fail
            go_roundw
            case rel =>
              refine ⟨k + 1, by omega, by go_num, ?_, B0, B⟩
              rw [← Nat.add_assoc, HUP.out]
              exact B1
            case measure => simp [intOf]; omega
        · go_wp2_with fail
          go_roundw
          case rel =>
            refine ⟨i + 1, by omega, by go_num, ?_, B0, B⟩
            have e1 : k = 64 := by omega
            have e2 : 64 * (i + 1) = 64 * i + k := by omega
            rw [e2]; exact B1
          case measure => simp [intOf]; omega
    · have e1 : 64 * i = 256 := by omega
      rw [e1] at B1
      clear e1
      have b0 := B1.cell 0 (by decide); have b1 := B1.cell 1 (by decide); have b2 := B1.cell 2 (by decide); have b3 := B1.cell 3 (by decide)
      rw [Bs.upto_all g _ (by decide)] at b0 b1 b2 b3
      have z0 := B0.cell 0 (by decide); have z1 := B0.cell 1 (by decide); have z2 := B0.cell 2 (by decide); have z3 := B0.cell 3 (by decide)
      have g0 := B0.frz 0 (by decide); have g1 := B0.frz 1 (by decide); have g2 := B0.frz 2 (by decide); have g3 := B0.frz 3 (by decide)
      go_wp2_with fail
      exact bodyPost_ret (v := .agg #[.int .u64 ↑(Bs.word g 0), .int .u64 ↑(Bs.word g 1), .int .u64 ↑(Bs.word g 2), .int .u64 ↑(Bs.word g 3)]) (by simp [results, Tryz.results139, go_sem, z0, z1, z2, z3]) rfl ⟨rfl, Bs.set4 B (Nat.le_refl _) _ _ _ _⟩
end Go.Proofs.YtndkgkokjjphlaaGreat
namespace Go.Proofs.YtndkgkokjjphlaaGreat
set_option linter.unusedVariables false
set_option linter.unusedSimpArgs false
def Bs.alike (fs : List (Nat → Bool)) (c d : Nat) : Bool := fs.all fun f => f c == f d
theorem Bs.alike_iff {fs : List (Nat → Bool)} {c d : Nat} : Bs.alike fs c d = true ↔ ∀ f ∈ fs, f c = f d := by simp [Bs.alike]
theorem Bs.alike_refl (fs : List (Nat → Bool)) (c : Nat) : Bs.alike fs c c = true := Bs.alike_iff.2 fun _ _ => rfl
theorem Bs.alike_symm {fs : List (Nat → Bool)} {c d : Nat} (h : Bs.alike fs c d = true) : Bs.alike fs d c = true := Bs.alike_iff.2 fun f hf => (Bs.alike_iff.1 h f hf).symm
theorem Bs.alike_trans {fs : List (Nat → Bool)} {c d e : Nat} (h : Bs.alike fs c d = true) (h' : Bs.alike fs d e = true) : Bs.alike fs c e = true := Bs.alike_iff.2 fun f hf => (Bs.alike_iff.1 h f hf).trans (Bs.alike_iff.1 h' f hf)
def Bs.first (fs : List (Nat → Bool)) (c : Nat) : Bool := (List.range c).all fun d => !Bs.alike fs c d
theorem Bs.first_iff {fs : List (Nat → Bool)} {c : Nat} : Bs.first fs c = true ↔ ∀ d, d < c → Bs.alike fs c d = false := by simp [Bs.first]
def Bs.ncl (fs : List (Nat → Bool)) (n : Nat) : Nat := Bs.cnt (Bs.first fs) n
def Bs.low (fs : List (Nat → Bool)) (c : Nat) : Nat := ((List.range c).find? fun d => Bs.alike fs c d).getD c
theorem Bs.find_range (p : Nat → Bool) : ∀ n, (∃ k, (List.range n).find? p = some k ∧ k < n ∧ p k = true ∧ ∀ j, j < k → p j = false) ∨ ((List.range n).find? p = none ∧ ∀ j, j < n → p j = false)
  | 0 => .inr ⟨rfl, fun j hj => by omega⟩
  | n + 1 => by
    rw [List.range_succ, List.find?_append]
    rcases Bs.find_range p n with ⟨k, e, h1, h2, h3⟩ | ⟨e, h⟩
    · exact .inl ⟨k, by simp [e], by omega, h2, h3⟩
    · rw [e]
      cases hp : p n
      · refine .inr ⟨by simp [hp], fun j hj => ?_⟩
        by_cases hj' : j = n
        · rw [hj']; exact hp
        · exact h j (by omega)
      · exact .inl ⟨n, by simp [hp], by omega, hp, h⟩
theorem Bs.low_spec (fs : List (Nat → Bool)) (c : Nat) : Bs.low fs c ≤ c ∧ Bs.alike fs c (Bs.low fs c) = true ∧ ∀ d, d < Bs.low fs c → Bs.alike fs c d = false := by
  unfold Bs.low
  rcases Bs.find_range (fun d => Bs.alike fs c d) c with ⟨k, e, h1, h2, h3⟩ | ⟨e, h⟩
  · rw [e]; exact ⟨by simp; omega, h2, h3⟩
  · rw [e]; exact ⟨Nat.le_refl _, Bs.alike_refl _ _, h⟩
theorem Bs.low_first (fs : List (Nat → Bool)) (c : Nat) : Bs.first fs (Bs.low fs c) = true := by
  obtain ⟨_, h1, h2⟩ := Bs.low_spec fs c
  refine Bs.first_iff.2 fun d hd => ?_
  cases ha : Bs.alike fs (Bs.low fs c) d
  · rfl
  · rw [← h2 d hd]; exact (Bs.alike_trans h1 ha).symm ▸ rfl
theorem Bs.low_eq {fs : List (Nat → Bool)} {c d : Nat} (h : Bs.alike fs c d = true) : Bs.low fs c = Bs.low fs d := by
  obtain ⟨_, a1, a2⟩ := Bs.low_spec fs c
  obtain ⟨_, b1, b2⟩ := Bs.low_spec fs d
  rcases Nat.lt_trichotomy (Bs.low fs c) (Bs.low fs d) with hl | hl | hl
  · have := b2 _ hl; rw [Bs.alike_trans (Bs.alike_symm h) a1] at this; cases this
  · exact hl
  · have := a2 _ hl; rw [Bs.alike_trans h b1] at this; cases this
theorem Bs.ncl_mono (fs : List (Nat → Bool)) {a b : Nat} (h : a ≤ b) : Bs.ncl fs a ≤ Bs.ncl fs b := by
  obtain ⟨n, rfl⟩ := Nat.exists_eq_add_of_le h
  unfold Bs.ncl
  rw [Bs.cnt_add]; omega
theorem Bs.ncl_step {fs : List (Nat → Bool)} {a b : Nat} (h : a < b) (ha : Bs.first fs a = true) : Bs.ncl fs a < Bs.ncl fs b := by
  have h1 := Bs.ncl_mono fs (show a + 1 ≤ b from h)
  have h2 : Bs.ncl fs (a + 1) = Bs.ncl fs a + 1 := by unfold Bs.ncl; rw [Bs.cnt_succ, if_pos ha]
  omega
theorem Bs.ncl_le (fs : List (Nat → Bool)) (n : Nat) : Bs.ncl fs n ≤ n := Bs.cnt_le _ _
def Bs.kls (fs : List (Nat → Bool)) (c : Nat) : Nat := Bs.ncl fs (Bs.low fs c)
theorem Bs.kls_lt (fs : List (Nat → Bool)) {c n : Nat} (h : c < n) : Bs.kls fs c < Bs.ncl fs n :=
  Bs.ncl_step (Nat.lt_of_le_of_lt (Bs.low_spec fs c).1 h) (Bs.low_first fs c)
theorem Bs.kls_le (fs : List (Nat → Bool)) (c : Nat) : Bs.kls fs c ≤ c := Nat.le_trans (Bs.ncl_le _ _) (Bs.low_spec fs c).1
theorem Bs.kls_iff (fs : List (Nat → Bool)) (c d : Nat) : Bs.kls fs c = Bs.kls fs d ↔ Bs.alike fs c d = true := by
  constructor
  · intro h
    have hl : Bs.low fs c = Bs.low fs d := by
      rcases Nat.lt_trichotomy (Bs.low fs c) (Bs.low fs d) with hl | hl | hl
      · have := Bs.ncl_step hl (Bs.low_first fs c); unfold Bs.kls at h; omega
      · exact hl
      · have := Bs.ncl_step hl (Bs.low_first fs d); unfold Bs.kls at h; omega
    have h1 := (Bs.low_spec fs c).2.1
    have h2 := (Bs.low_spec fs d).2.1
    rw [hl] at h1
    exact Bs.alike_trans h1 (Bs.alike_symm h2)
  · intro h; unfold Bs.kls; rw [Bs.low_eq h]
theorem Bs.kls_new {fs : List (Nat → Bool)} {c : Nat} (h : ∀ d, d < c → Bs.alike fs c d = false) : Bs.kls fs c = Bs.ncl fs c ∧ Bs.ncl fs (c + 1) = Bs.ncl fs c + 1 := by
  obtain ⟨h1, h2, _⟩ := Bs.low_spec fs c
  have e : Bs.low fs c = c := by
    rcases Nat.lt_or_ge (Bs.low fs c) c with hl | hl
    · rw [h _ hl] at h2; cases h2
    · omega
  refine ⟨by unfold Bs.kls; rw [e], ?_⟩
  unfold Bs.ncl; rw [Bs.cnt_succ, if_pos (Bs.first_iff.2 h)]
theorem Bs.kls_old {fs : List (Nat → Bool)} {c d : Nat} (hd : d < c) (h : Bs.alike fs c d = true) : Bs.kls fs c = Bs.kls fs d ∧ Bs.ncl fs (c + 1) = Bs.ncl fs c := by
  refine ⟨(Bs.kls_iff fs c d).2 h, ?_⟩
  unfold Bs.ncl
  rw [Bs.cnt_succ, if_neg ?_]; · rfl
  intro hf
  have := Bs.first_iff.1 hf d hd
  rw [h] at this; cases this
def Bs.cls (fs : List (Nat → Bool)) (k : Int) : Nat → Bool := fun c => (Bs.kls fs c : Int) == k
end Go.Proofs.YtndkgkokjjphlaaGreat
namespace Go.Proofs.YtndkgkokjjphlaaGreat
set_option linter.unusedVariables false
set_option linter.unusedSimpArgs false
open Go.RowKit
def Bs.rng (lo hi : Nat) : Nat → Bool := fun c => decide (lo ≤ c) && decide (c ≤ hi)
set_option maxHeartbeats 400000 in
theorem clRange_any (lo hi c a b : Nat) (w : World) (ha : w.cell? ⟨a, 0, none⟩ = some (.int .u8 lo)) (hb : w.cell? ⟨b, 0, none⟩ = some (.int .u8 hi)) :
    Calls Tryz.prog 140 #[.int .u8 c, .pointer (some ⟨a, 0, none⟩), .pointer (some ⟨b, 0, none⟩)] w (Bs.BPost w (Bs.rng lo hi c)) := by
  unfold Bs.rng
  by_cases h1 : lo ≤ c
  · have d1 : decide ((lo : Int) ≤ (c : Int)) = true := decide_eq_true (by omega)
    have d2 : decide (lo ≤ c) = true := decide_eq_true (by omega)
    go_enter Tryz.func140, Tryz.ntmps140
    go_wp2
    go_ret
    exact ⟨Bs.ret_bool (by simp [h1]), Below.refl _ _⟩
  · have d1 : decide ((lo : Int) ≤ (c : Int)) = false := decide_eq_false (by omega)
    have d2 : decide (lo ≤ c) = false := decide_eq_false (by omega)
    go_enter Tryz.func140, Tryz.ntmps140
    go_wp2
    go_ret
    exact ⟨Bs.ret_bool (by simp; omega), Below.refl _ _⟩
set_option maxRecDepth 100000 in
set_option maxHeartbeats 1000000 in
theorem rangeB_any (lo hi : Nat) (w : World) : Calls Tryz.prog 133 #[.int .u8 lo, .int .u8 hi] w fun e w' => e = .returned (Bs.val (Bs.rng lo hi)) ∧ Below w.heap.size w w' := by
  go_enter Tryz.func133, Tryz.ntmps133
  go_wp2_with fail
  refine (which_any 140 #[.pointer (some ⟨w.heap.size, 0, none⟩), .pointer (some ⟨w.heap.size + 1, 0, none⟩)] (Bs.rng lo hi) _ (fun _ _ => by kernel_rfl) ?_).mono ?_
  · intro c v hc hv
    refine clRange_any lo hi c _ _ v ?_ ?_
    · refine Bs.cell_up hv ?_; simp [go_sem]
    · refine Bs.cell_up hv ?_; simp [go_sem]
  · rintro e w1 ⟨rfl, hb⟩
    unfold Bs.val
    have hn := Bs.new4 hb
    have eN : ((w.alloc (.cells #[.int .u8 lo] 5)).alloc (.cells #[.int .u8 hi] 5)).heap.size = w.heap.size + 1 + 1 := by simp [go_sem]
    rw [eN] at hn
    obtain ⟨n0, n1, n2, n3, m0, m1, m2, m3⟩ := hn
    have B : Below w.heap.size w w1 := (Bs.below3 w _ _ _).trans (hb.mono (by simp; omega))
    clear eN hb
    go_wp2
    exact bodyPost_ret (v := .agg #[.int .u64 ↑(Bs.word (Bs.rng lo hi) 0), .int .u64 ↑(Bs.word (Bs.rng lo hi) 1), .int .u64 ↑(Bs.word (Bs.rng lo hi) 2), .int .u64 ↑(Bs.word (Bs.rng lo hi) 3)]) (by simp [results, Tryz.results133, go_sem, n0, n1, n2, n3]) rfl ⟨rfl, Bs.set4 B (by omega) _ _ _ _⟩
theorem Bs.like_snoc (fs : List (Nat → Bool)) (c k : Nat) (hk : k < fs.length) : (fun d => Bs.alike (fs.take (k + 1)) c d) = fun d => Bs.alike (fs.take k) c d && (fs[k] c == fs[k] d) := by
  funext d
  unfold Bs.alike
  rw [List.take_succ_eq_append_getElem hk, List.all_append]
  simp
set_option maxRecDepth 100000 in
set_option maxHeartbeats 1000000 in
theorem like_any (a : Option Addr) (fs : List (Nat → Bool)) (cap c : Nat) (w : World) (hc : c < 256) (hR : Bs.Row w a fs) (hn : fs.length ≤ 1000000) :
    Calls Tryz.prog 92 #[.slice a fs.length cap, .int .u8 c] w fun e w' => e = .returned (Bs.val fun d => Bs.alike fs c d) ∧ Below w.heap.size w w' := by
  have HR := Lib.hid hR; clear hR
  go_enter Tryz.func92, Tryz.ntmps92
  go_wp2_with fail
  refine (allB_any _).mono ?_
  rintro e v ⟨rfl, hb⟩
  unfold Bs.val
  have Z := (Bs.box_zero w 55).up hb
  have B : Below w.heap.size w v := Bs.below_up (Bs.below1 _ _) hb
  clear hb
  have B1 := Bs.box_new v (fun _ => true) 55
  have B0 := Z.up (Bs.below1 v (.cells #[.int .u64 (Bs.word (fun _ => true) 0), .int .u64 (Bs.word (fun _ => true) 1), .int .u64 (Bs.word (fun _ => true) 2), .int .u64 (Bs.word (fun _ => true) 3)] 55))
  replace B := Bs.below_up B (Bs.below1 v (.cells #[.int .u64 (Bs.word (fun _ => true) 0), .int .u64 (Bs.word (fun _ => true) 1), .int .u64 (Bs.word (fun _ => true) 2), .int .u64 (Bs.word (fun _ => true) 3)] 55))
  have nb : w.heap.size ≠ v.heap.size := Nat.ne_of_lt Z.lt
  have lb : w.heap.size ≤ v.heap.size := Nat.le_of_lt Z.lt
  clear Z
  go_wp2_with fail
  generalize v.alloc (.cells #[.int .u64 (Bs.word (fun _ => true) 0), .int .u64 (Bs.word (fun _ => true) 1), .int .u64 (Bs.word (fun _ => true) 2), .int .u64 (Bs.word (fun _ => true) 3)] 55) = W at *
  generalize v.heap.size = N at *
  have e0 : (fun _ => true) = fun d => Bs.alike (fs.take 0) c d := by funext d; simp [Bs.alike]
  rw [e0] at B1; clear e0
  go_loopw [11] (fun i wr => ∃ k : Nat, k ≤ fs.length ∧ i = .int .i64 k ∧ Bs.Box wr N (fun d => Bs.alike (fs.take k) c d) ∧ Bs.Box wr w.heap.size (fun _ => false) ∧ Below w.heap.size w wr) (fun i _ => fs.length - (intOf i).toNat)
  case atStart => exact ⟨0, Nat.zero_le _, rfl, B1, B0, B⟩
  case round =>
    clear B0 B1 B
    obtain ⟨k, hk, rfl, B1, B0, B⟩ := hrel
    by_cases hlt : k < fs.length
    · obtain ⟨x, rfl, hx⟩ := HR.out k hlt
      replace hx := hx.up B
      obtain ⟨x0, x1, x2, x3⟩ := hx
      have hsn := Bs.like_snoc fs c k hlt
      have HSN := Lib.hid hsn; clear hsn
      have A := Bs.below1 wr (.cells #[.int .u64 ↑(Bs.word fs[k] 0), .int .u64 ↑(Bs.word fs[k] 1), .int .u64 ↑(Bs.word fs[k] 2), .int .u64 ↑(Bs.word fs[k] 3)] 55)
      have Y := Bs.box_new wr fs[k] 55
      have lN := B1.lt
      replace B1 := B1.up A
      replace B0 := B0.up A
      replace B := Bs.below_up B A
      have nY : N ≠ wr.heap.size := Nat.ne_of_lt lN
      have y0 := Y.cell 0 (by decide); have y1 := Y.cell 1 (by decide); have y2 := Y.cell 2 (by decide); have y3 := Y.cell 3 (by decide)
      go_wp2_with fail
      refine (hasB_any fs[k] c hc _).mono ?_
      rintro e v1 ⟨rfl, hb1⟩
      clear y0 y1 y2 y3 x0 x1 x2 x3
      replace B1 := B1.up hb1
      replace B0 := B0.up hb1
      replace Y := Y.up hb1
      replace B := Bs.below_up B hb1
      have y0 := Y.cell 0 (by decide); have y1 := Y.cell 1 (by decide); have y2 := Y.cell 2 (by decide); have y3 := Y.cell 3 (by decide)
      have b0 := B1.cell 0 (by decide); have b1 := B1.cell 1 (by decide); have b2 := B1.cell 2 (by decide); have b3 := B1.cell 3 (by decide)
      rcases Bool.eq_false_or_eq_true (fs[k] c) with hf | hf
      · go_wp2_with fail
        refine (andB_any (fun d => Bs.alike (fs.take k) c d) fs[k] _).mono ?_
        rintro e v2 ⟨rfl, hb2⟩
        unfold Bs.val
        clear y0 y1 y2 y3 b0 b1 b2 b3
        replace B1 := B1.up hb2
        replace B0 := B0.up hb2
        replace B := Bs.below_up B hb2
        have b0 := B1.cell 0 (by decide); have b1 := B1.cell 1 (by decide); have b2 := B1.cell 2 (by decide); have b3 := B1.cell 3 (by decide)
        have g0 := B1.frz 0 (by decide); have g1 := B1.frz 1 (by decide); have g2 := B1.frz 2 (by decide); have g3 := B1.frz 3 (by decide)
        have HF := Lib.hid hf; clear hf
        go_wp2_with fail
        go_roundw
        case rel =>
          refine ⟨k + 1, by omega, by go_num, ?_, B0.far4 (Ne.symm nb) _ _ _ _, Bs.set4 B lb _ _ _ _⟩
          rw [HSN.out]
          have e2 : (fun d => Bs.alike (fs.take k) c d && (fs[k] c == fs[k] d)) = fun d => Bs.alike (fs.take k) c d && fs[k] d := by
            funext d; rw [HF.out]; simp
          rw [e2]
          exact B1.write _
        case measure => simp [intOf]; omega
      · go_wp2_with fail
        refine (lessB_any (fun d => Bs.alike (fs.take k) c d) fs[k] _).mono ?_
        rintro e v2 ⟨rfl, hb2⟩
        unfold Bs.val
        clear y0 y1 y2 y3 b0 b1 b2 b3
        replace B1 := B1.up hb2
        replace B0 := B0.up hb2
        replace B := Bs.below_up B hb2
        have b0 := B1.cell 0 (by decide); have b1 := B1.cell 1 (by decide); have b2 := B1.cell 2 (by decide); have b3 := B1.cell 3 (by decide)
        have g0 := B1.frz 0 (by decide); have g1 := B1.frz 1 (by decide); have g2 := B1.frz 2 (by decide); have g3 := B1.frz 3 (by decide)
        have HF := Lib.hid hf; clear hf
        go_wp2_with fail
        go_roundw
        case rel =>
          refine ⟨k + 1, by omega, by go_num, ?_, B0.far4 (Ne.symm nb) _ _ _ _, Bs.set4 B lb _ _ _ _⟩
          rw [HSN.out]
          have e2 : (fun d => Bs.alike (fs.take k) c d && (fs[k] c == fs[k] d)) = fun d => Bs.alike (fs.take k) c d && !fs[k] d := by
            funext d; rw [HF.out]; simp
          rw [e2]
          exact B1.write _
        case measure => simp [intOf]; omega
    · have e1 : fs.take k = fs := List.take_of_length_le (by omega)
      rw [e1] at B1
      clear e1
      have b0 := B1.cell 0 (by decide); have b1 := B1.cell 1 (by decide); have b2 := B1.cell 2 (by decide); have b3 := B1.cell 3 (by decide)
      have z0 := B0.cell 0 (by decide); have z1 := B0.cell 1 (by decide); have z2 := B0.cell 2 (by decide); have z3 := B0.cell 3 (by decide)
      have g0 := B0.frz 0 (by decide); have g1 := B0.frz 1 (by decide); have g2 := B0.frz 2 (by decide); have g3 := B0.frz 3 (by decide)
      go_wp2_with fail
      exact bodyPost_ret (v := .agg #[.int .u64 ↑(Bs.word (fun d => Bs.alike fs c d) 0), .int .u64 ↑(Bs.word (fun d => Bs.alike fs c d) 1), .int .u64 ↑(Bs.word (fun d => Bs.alike fs c d) 2), .int .u64 ↑(Bs.word (fun d => Bs.alike fs c d) 3)]) (by simp [results, Tryz.results92, go_sem, z0, z1, z2, z3]) rfl ⟨rfl, Bs.set4 B (Nat.le_refl _) _ _ _ _⟩
end Go.Proofs.YtndkgkokjjphlaaGreat
namespace Go.Proofs.YtndkgkokjjphlaaGreat
set_option linter.unusedVariables false
set_option linter.unusedSimpArgs false
open Go.RowKit
theorem Px.index (S : List UInt8) (c : UInt8) : decide (0 ≤ Lib.indexByte S c) = S.contains c := by
  rw [Bool.eq_iff_iff, decide_eq_true_eq]
  induction S with
  | nil => simp [Lib.indexByte]
  | cons a l ih =>
    have hg := Lib.indexByte_ge l c
    rw [List.contains_cons, Bool.or_eq_true, beq_iff_eq, ← ih, Lib.indexByte]
    by_cases h : a = c
    · simp [h]
    · have h' : ¬ c = a := fun e => h e.symm
      rw [if_neg (by simp [h])]
      constructor
      · intro h2
        split at h2 <;> rename_i h3 <;> simp only [beq_iff_eq] at h3 <;> first | (exact .inr (by omega)) | omega
      · rintro (h2 | h2)
        · exact absurd h2 h'
        · rw [if_neg (by simp; omega)]; omega
set_option maxRecDepth 100000 in
set_option maxHeartbeats 400000 in
theorem at_any (r : Nat) (t : List Int) (big : Bool) (S : ByteArray) (hS : ∀ b ∈ S.data.toList, b.toNat < 128) (w : World) (h : Px.St w r t big) : Calls Tryz.prog 114 #[.pointer (some ⟨r, 0, none⟩), .string S] w fun e w' => e = .returned (.bool (Px.oneOf S.data.toList t)) ∧ w' = w := by
  obtain ⟨⟨s, c0, hs⟩, c1, z0, z1, _⟩ := h
  cases t with
  | nil =>
    have e0 := Px.empty hs.nil
    clear hs
    go_enter Tryz.func114, Tryz.ntmps114
    go_wp2_with fail
    go_ret
    exact ⟨rfl, rfl⟩
  | cons n t =>
    have h1 := hs.len
    have e0 := Px.not_empty h1
    have hl := hs.max
    unfold maxLen at hl
    have HA := Lib.hid (hs.any h1 S.data.toList hS)
    clear hs hS
    have C := Lib.hid (Tryz.strings_IndexByte S s[0].toNat w)
    have HE := Lib.hid (Px.index S.data.toList s[0])
    go_enter Tryz.func114, Tryz.ntmps114
    go_wp2_with fail
    refine C.out.mono ?_
    rintro e w1 ⟨rfl, rfl⟩
    have e9 : ((s[0].toNat : Int)).toNat.toUInt8 = s[0] := by simp
    rw [e9]
    have HE := HE.out
    rw [HA.out] at HE
    generalize Lib.indexByte S.data.toList s[0] = d at *
    clear C HA e9
    go_wp2_with fail
    go_ret
    exact ⟨by rw [← HE]; rfl, rfl⟩
def Px.OPost (w : World) (r : Nat) (big : Bool) (o : Option (Int × List Int)) (e : Ending) (w' : World) : Prop :=
  (match o with
  | some (c, t) => e = .returned (.int .i64 c) ∧ Px.St w' r t big
  | none => e = Px.up 20) ∧ w.grownBy w' (some r)
def Px.uncons : List Int → Option (Int × List Int)
  | [] => none
  | c :: r => some (c, r)
set_option maxRecDepth 100000 in
set_option maxHeartbeats 400000 in
theorem psign_any (r : Nat) (t : List Int) (big : Bool) (w : World) (h : Px.St w r t big) : Calls Tryz.prog 121 #[.pointer (some ⟨r, 0, none⟩)] w (Px.OPost w r big (Px.uncons t)) := by
  obtain ⟨s, c0, hs⟩ := h.c0
  have F := Lib.hid (first_any s w hs.max)
  have H := Lib.hid h
  clear h
  have S := Lib.hid hs
  clear hs
  go_enter Tryz.func121, Tryz.ntmps121
  go_wp2_with fail
  refine F.out.mono ?_
  rintro e w1 ⟨rfl, n, hw⟩
  have hb := Rx.see_below hw
  have H1 := Lib.hid (H.out.up hb)
  have G := Lib.hid (Rx.grown_of r hb)
  replace c0 := Bs.cell_up hb c0
  have z0 := H1.out.z0
  clear F hw hb H
  cases t with
  | nil =>
    have e1 : Rn.firstL s.data.toList = (-1, 0) := Rn.firstL_nil s S.out.nil
    rw [e1]
    have N := Lib.hid (need_no 20 w1)
    go_wp2_with fail
    refine N.out.mono ?_
    rintro e w2 ⟨rfl, rfl⟩
    exact ⟨rfl, rfl, G.out⟩
  | cons m t =>
    obtain ⟨k, k0, ks, e1, T⟩ := S.out.on
    have hl := S.out.max
    unfold maxLen at hl
    have T := Lib.hid T
    rw [e1]
    have N := Lib.hid (need_yes 20 w1)
    have e2 : decide ((0 : Int) < k) = true := by simp; omega
    clear e1
    go_wp2_with fail
    refine N.out.mono ?_
    rintro e w2 ⟨rfl, rfl⟩
    go_wp2_with fail
    go_ret
    exact ⟨⟨rfl, H1.out.text T.out⟩, Rx.grown_set G.out _ _⟩
end Go.Proofs.YtndkgkokjjphlaaGreat
namespace Go.Proofs.YtndkgkokjjphlaaGreat
set_option linter.unusedVariables false
set_option linter.unusedSimpArgs false
open Go.RowKit
open Go.RowKit
open Go.RowKit
theorem Rx.Cell.grown {w w' : World} {r : Nat} (hg : w.grownBy w' (some r)) {x : Addr} {k : Nat} {f : Nat → Bool} {a : Option Addr} {n cap : Nat} (h : Rx.Cell w x k f a n cap) (hn : x.block ≠ r) : Rx.Cell w' x k f a n cap := by
  have hx : ∀ (y : Addr) (v : Value), y.block = x.block → w.cell? y = some v → w'.cell? y = some v := fun y v e hv => hg.cell hv (by rw [e]; simpa using hn)
  exact ⟨hx _ _ rfl h.c0, hx _ _ rfl h.c1, hx _ _ rfl h.c2, hx _ _ rfl h.c3, hx _ _ rfl h.c4, hx _ _ rfl h.c5⟩
theorem Rx.Cell.far {w : World} {r : Nat} {b : Option Addr} {L : List Int} {c : Nat} {i : Int} {bad big : Bool} (R : Rx.Rd w r b L c i bad big) {x : Addr} {k : Nat} {f : Nat → Bool} {a : Option Addr} {n cap : Nat} (h : Rx.Cell w x k f a n cap) : x.block ≠ r := fun e => by
  have h5 := h.c5
  rw [e] at h5
  have := R.only _ _ h5
  omega
mutual
theorem Rx.In.grown {w w' : World} {r : Nat} {b : Option Addr} {L : List Int} {c : Nat} {i : Int} {bad big : Bool} (R : Rx.Rd w r b L c i bad big) (hg : w.grownBy w' (some r)) : ∀ {x : Rx} {p : Addr}, Rx.In w x p → Rx.In w' x p
  | .node k f l, p, h => by
    simp only [Rx.In] at h ⊢
    obtain ⟨hk, a, cap, hc, hl⟩ := h
    exact ⟨hk, a, cap, hc.grown hg (Rx.Cell.far R hc), Rx.InL.grown R hg hl⟩
theorem Rx.InL.grown {w w' : World} {r : Nat} {b : Option Addr} {L : List Int} {c : Nat} {i : Int} {bad big : Bool} (R : Rx.Rd w r b L c i bad big) (hg : w.grownBy w' (some r)) : ∀ {l : List Rx} {a : Option Addr} {i : Nat}, Rx.InL w l a i → Rx.InL w' l a i
  | [], _, _, _ => by simp [Rx.InL]
  | y :: t, a, i, h => by
    simp only [Rx.InL] at h ⊢
    obtain ⟨⟨p, e, hp⟩, hr⟩ := h
    exact ⟨⟨p, e, Rx.In.grown R hg hp⟩, Rx.InL.grown R hg hr⟩
end
theorem Rx.Is.grown {w w' : World} {r : Nat} {b : Option Addr} {L : List Int} {c : Nat} {i : Int} {bad big : Bool} (R : Rx.Rd w r b L c i bad big) (hg : w.grownBy w' (some r)) {x : Rx} {v : Value} (h : Rx.Is w x v) : Rx.Is w' x v := by
  cases x
  obtain ⟨hk, a, cap, e, hl⟩ := h
  exact ⟨hk, a, cap, e, hl.grown R hg⟩
open Go.RowKit
theorem Rx.hdr_none (k : Nat) (a : Option Addr) (n cap : Nat) : Rx.hdr k (fun _ => false) a n cap = .agg #[.int .u8 k, .int .u64 0, .int .u64 0, .int .u64 0, .int .u64 0, .slice a n cap] := by
  simp [Rx.hdr, Bs.word_none]
open Go.RowKit
theorem Rx.add_block (x : Addr) (i : Nat) : (x.add i).block = x.block := by
  simp only [Addr.add]
  split <;> rfl
theorem Rx.Rd.far {w : World} {r : Nat} {a : Option Addr} {L : List Int} {cap : Nat} {i : Int} {bad big : Bool} (h : Rx.Rd w r a L cap i bad big) {d : Nat} (hd : d ≠ r) (hn : ∀ x, a = some x → L ≠ [] → x.block ≠ d) (j : Nat) (v : Value) : Rx.Rd (w.setCell ⟨d, j, none⟩ v) r a L cap i bad big := by
  refine ⟨Bs.cell_set h.c0 hd, Bs.cell_set h.c1 hd, Bs.cell_set h.c2 hd, Bs.cell_set h.c3 hd, by simpa using h.z1, by simpa using h.z2, by simpa using h.z3, ?_, h.ne, h.nn, h.ln, ?_⟩
  · intro q hq
    obtain ⟨x, e, hx⟩ := h.sg q hq
    exact ⟨x, e, Bs.cell_set hx (fun e' => hn x e (fun e0 => by rw [e0] at hq; simp at hq) ((Rx.add_block x q).symm.trans e'.symm))⟩
  · intro q u hq
    rw [World.cell?_setCell_other _ _ _ _ (by simp [hd])] at hq
    exact h.only q u hq
theorem Rx.St.far {w : World} {r : Nat} {a : Option Addr} {L : List Int} {cap : Nat} {t : Option (List Int)} {big : Bool} (h : Rx.St w r a L cap t big) {d : Nat} (hd : d ≠ r) (hn : ∀ x, a = some x → L ≠ [] → x.block ≠ d) (j : Nat) (v : Value) : Rx.St (w.setCell ⟨d, j, none⟩ v) r a L cap t big := by
  cases t with
  | none => obtain ⟨i, h⟩ := h; exact ⟨i, h.far hd hn j v⟩
  | some t => obtain ⟨q, h1, h2, h⟩ := h; exact ⟨q, h1, h2, h.far hd hn j v⟩
theorem Rx.grown_far {w v : World} {c : Nat} {row : Option Nat} (h : w.grownBy v row) (hc : w.heap.size ≤ c) (j : Nat) (u : Value) : w.grownBy (v.setCell ⟨c, j, none⟩ u) row :=
  ⟨h.os, h.tape, h.output, by rw [show (v.setCell ⟨c, j, none⟩ u).heap.size = v.heap.size by simp [go_sem]]; exact h.size, fun k hk hn => by rw [Below.heap_setCell _ _ _ _ (by simp; omega)]; exact h.block k hk hn⟩
end Go.Proofs.YtndkgkokjjphlaaGreat
