/- Sets in memory; what Or and Of answer, walked. -/
import Derived.Test.YtndenipjiclkaaaBsB
namespace Go.Proofs.Ytndenipjiclkaaa
set_option linter.unusedVariables false
set_option linter.unusedSimpArgs false
open Go.RowKit
theorem Bs.cell_up {w w1 : World} (hb : Below w.heap.size w w1) {a : Addr} {v : Value} (h : w.cell? a = some v) : w1.cell? a = some v := by rw [hb.cell (World.block_lt_of_cell? w _ h)]; exact h
theorem Bs.frz_up {w w1 : World} (hb : Below w.heap.size w w1) {a : Addr} {v : Value} (h : w.cell? a = some v) (hf : w.frozen? a = false) : w1.frozen? a = false := by rw [hb.frozen (World.block_lt_of_cell? w _ h)]; exact hf
theorem Bs.below_up {w v v' : World} (h : Below w.heap.size w v) (h' : Below v.heap.size v v') : Below w.heap.size w v' := h.trans (h'.mono h.size)
theorem Bs.below1 (w : World) (o : Obj) : Below w.heap.size w (w.alloc o) := (Below.refl _ _).alloc (Nat.le_refl _) _
theorem Bs.cell_set {w : World} {a p : Addr} {v u : Value} (h : w.cell? a = some v) (hn : p.block ≠ a.block) : (w.setCell p u).cell? a = some v := by
  rw [World.cell?_setCell_other _ _ _ _ (by rintro rfl; exact hn rfl)]; exact h
/-- block b has the words of f, and may be written -/
structure Bs.Box (w : World) (b : Nat) (f : Nat → Bool) : Prop where
  cell : ∀ i, i < 4 → w.cell? ⟨b, i, none⟩ = some (.int .u64 (Bs.word f i))
  frz : ∀ i, i < 4 → w.frozen? ⟨b, i, none⟩ = false
theorem Bs.Box.lt {w : World} {b : Nat} {f : Nat → Bool} (h : Bs.Box w b f) : b < w.heap.size := World.block_lt_of_cell? w _ (h.cell 0 (by decide))
theorem Bs.Box.up {w w1 : World} {b : Nat} {f : Nat → Bool} (h : Bs.Box w b f) (hb : Below w.heap.size w w1) : Bs.Box w1 b f :=
  ⟨fun i hi => Bs.cell_up hb (h.cell i hi), fun i hi => Bs.frz_up hb (h.cell i hi) (h.frz i hi)⟩
theorem Bs.Box.far {w : World} {b d i : Nat} {f : Nat → Bool} (h : Bs.Box w b f) (hn : d ≠ b) (v : Value) : Bs.Box (w.setCell ⟨d, i, none⟩ v) b f :=
  ⟨fun j hj => Bs.cell_set (h.cell j hj) hn, fun j hj => by simpa using h.frz j hj⟩
theorem Bs.Box.far4 {w : World} {b d : Nat} {f : Nat → Bool} (h : Bs.Box w b f) (hn : d ≠ b) (x y z u : Value) : Bs.Box ((((w.setCell ⟨d, 0, none⟩ x).setCell ⟨d, 1, none⟩ y).setCell ⟨d, 2, none⟩ z).setCell ⟨d, 3, none⟩ u) b f :=
  (((h.far hn _).far hn _).far hn _).far hn _
theorem Bs.Box.drew {w : World} {b : Nat} {f : Nat → Bool} (h : Bs.Box w b f) : Bs.Box w.drew b f := ⟨h.cell, h.frz⟩
theorem Bs.four {i : Nat} (h : i < 4) : i = 0 ∨ i = 1 ∨ i = 2 ∨ i = 3 := by omega
theorem Bs.box_new (w : World) (f : Nat → Bool) (t : TypeId) : Bs.Box (w.alloc (.cells #[.int .u64 (Bs.word f 0), .int .u64 (Bs.word f 1), .int .u64 (Bs.word f 2), .int .u64 (Bs.word f 3)] t)) w.heap.size f := by
  constructor <;> intro i hi <;> rcases Bs.four hi with rfl | rfl | rfl | rfl <;> simp [go_sem]
theorem Bs.box_zero (w : World) (t : TypeId) : Bs.Box (w.alloc (.cells #[.int .u64 0, .int .u64 0, .int .u64 0, .int .u64 0] t)) w.heap.size (fun _ => false) := by
  have h := Bs.box_new w (fun _ => false) t
  simp only [Bs.word_none] at h
  exact h
theorem Bs.Box.write {w : World} {b : Nat} {f : Nat → Bool} (h : Bs.Box w b f) (g : Nat → Bool) :
    Bs.Box ((((w.setCell ⟨b, 0, none⟩ (.int .u64 (Bs.word g 0))).setCell ⟨b, 1, none⟩ (.int .u64 (Bs.word g 1))).setCell ⟨b, 2, none⟩ (.int .u64 (Bs.word g 2))).setCell ⟨b, 3, none⟩ (.int .u64 (Bs.word g 3))) b g := by
  have c0 := h.cell 0 (by decide); have c1 := h.cell 1 (by decide); have c2 := h.cell 2 (by decide); have c3 := h.cell 3 (by decide)
  have f0 := h.frz 0 (by decide); have f1 := h.frz 1 (by decide); have f2 := h.frz 2 (by decide); have f3 := h.frz 3 (by decide)
  constructor <;> intro i hi <;> rcases Bs.four hi with rfl | rfl | rfl | rfl <;> simp [go_sem, c0, c1, c2, c3, f0, f1, f2, f3]
/-- one word is written -/
theorem Bs.Box.put {w : World} {b i : Nat} {f g : Nat → Bool} (h : Bs.Box w b f) (hi : i < 4) (hg : ∀ j, j < 4 → j ≠ i → Bs.word g j = Bs.word f j) : Bs.Box (w.setCell ⟨b, i, none⟩ (.int .u64 (Bs.word g i))) b g := by
  refine ⟨fun j hj => ?_, fun j hj => by simpa using h.frz j hj⟩
  by_cases hij : j = i
  · subst hij
    have := h.cell j hj
    simp [go_sem, this]
  · rw [World.cell?_setCell_other _ _ _ _ (by simp [Ne.symm hij]), h.cell j hj, hg j hj hij]
/-- the set lies at an address -/
structure Bs.At (w : World) (x : Addr) (f : Nat → Bool) : Prop where
  c0 : w.cell? x = some (.int .u64 (Bs.word f 0))
  c1 : w.cell? ⟨x.block, x.off + 1, none⟩ = some (.int .u64 (Bs.word f 1))
  c2 : w.cell? ⟨x.block, x.off + 2, none⟩ = some (.int .u64 (Bs.word f 2))
  c3 : w.cell? ⟨x.block, x.off + 3, none⟩ = some (.int .u64 (Bs.word f 3))
theorem Bs.At.up {w w' : World} {x : Addr} {f : Nat → Bool} (h : Bs.At w x f) (hb : Below w.heap.size w w') : Bs.At w' x f := ⟨Bs.cell_up hb h.c0, Bs.cell_up hb h.c1, Bs.cell_up hb h.c2, Bs.cell_up hb h.c3⟩
/-- the slice's cells are the sets -/
def Bs.Row (w : World) (a : Option Addr) (fs : List (Nat → Bool)) : Prop := ∀ i (h : i < fs.length), ∃ x, a = some x ∧ Bs.At w (x.add (i * 4)) fs[i]
theorem Bs.Row.up {w w' : World} {a : Option Addr} {fs : List (Nat → Bool)} (h : Bs.Row w a fs) (hb : Below w.heap.size w w') : Bs.Row w' a fs := fun i hi => by
  obtain ⟨x, e, h⟩ := h i hi
  exact ⟨x, e, h.up hb⟩
/-- what some set of a list has -/
def Bs.orL (fs : List (Nat → Bool)) : Nat → Bool := fun c => fs.any fun f => f c
theorem Bs.orL_snoc (fs : List (Nat → Bool)) (k : Nat) (hk : k < fs.length) : Bs.orL (fs.take (k + 1)) = fun c => Bs.orL (fs.take k) c || fs[k] c := by
  funext c
  unfold Bs.orL
  rw [List.take_succ_eq_append_getElem hk, List.any_append]
  simp
set_option maxRecDepth 100000 in
set_option maxHeartbeats 1000000 in
theorem orB_any (a : Option Addr) (fs : List (Nat → Bool)) (cap : Nat) (w : World) (hR : Bs.Row w a fs) (hn : fs.length ≤ 1000000) :
    Calls Try.prog 122 #[.slice a fs.length cap] w fun e w' => e = .returned (Bs.val (Bs.orL fs)) ∧ Below w.heap.size w w' := by
  have HR := Lib.hid hR; clear hR
  go_enter Try.func122, Try.ntmps122
  go_wp2_with fail
  have B0 := (Bs.box_zero w 44).up (Bs.below1 _ (.cells #[.int .u64 0, .int .u64 0, .int .u64 0, .int .u64 0] 44))
  have B1 := Bs.box_zero (w.alloc (.cells #[.int .u64 0, .int .u64 0, .int .u64 0, .int .u64 0] 44)) 44
  have eN : (w.alloc (.cells #[.int .u64 0, .int .u64 0, .int .u64 0, .int .u64 0] 44)).heap.size = w.heap.size + 1 := by simp [go_sem]
  rw [eN] at B1
  have B : Below w.heap.size w ((w.alloc (.cells #[.int .u64 0, .int .u64 0, .int .u64 0, .int .u64 0] 44)).alloc (.cells #[.int .u64 0, .int .u64 0, .int .u64 0, .int .u64 0] 44)) := Bs.below2 _ _ _
  clear eN
  generalize (w.alloc (.cells #[.int .u64 0, .int .u64 0, .int .u64 0, .int .u64 0] 44)).alloc (.cells #[.int .u64 0, .int .u64 0, .int .u64 0, .int .u64 0] 44) = W at *
  go_loopw [10] (fun i wr => ∃ k : Nat, k ≤ fs.length ∧ i = .int .i64 k ∧ Bs.Box wr (w.heap.size + 1) (Bs.orL (fs.take k)) ∧ Bs.Box wr w.heap.size (fun _ => false) ∧ Below w.heap.size w wr) (fun i _ => fs.length - (intOf i).toNat)
  case atStart => exact ⟨0, Nat.zero_le _, rfl, B1, B0, B⟩
  case round =>
    clear B0 B1 B
    obtain ⟨k, hk, rfl, B1, B0, B⟩ := hrel
    have n1 : w.heap.size ≠ w.heap.size + 1 := by omega
    have m1 : w.heap.size ≤ w.heap.size + 1 := by omega
    by_cases hlt : k < fs.length
    · obtain ⟨x, rfl, hx⟩ := HR.out k hlt
      replace hx := hx.up B
      obtain ⟨x0, x1, x2, x3⟩ := hx
      have hsn := Bs.orL_snoc fs k hlt
      have HSN := Lib.hid hsn; clear hsn
      have i0 := Bs.idx0 (.int .u64 ↑(Bs.word fs[k] 0)) (.int .u64 ↑(Bs.word fs[k] 1)) (.int .u64 ↑(Bs.word fs[k] 2)) (.int .u64 ↑(Bs.word fs[k] 3))
      have i1 := Bs.idx1 (.int .u64 ↑(Bs.word fs[k] 0)) (.int .u64 ↑(Bs.word fs[k] 1)) (.int .u64 ↑(Bs.word fs[k] 2)) (.int .u64 ↑(Bs.word fs[k] 3))
      have i2 := Bs.idx2 (.int .u64 ↑(Bs.word fs[k] 0)) (.int .u64 ↑(Bs.word fs[k] 1)) (.int .u64 ↑(Bs.word fs[k] 2)) (.int .u64 ↑(Bs.word fs[k] 3))
      have i3 := Bs.idx3 (.int .u64 ↑(Bs.word fs[k] 0)) (.int .u64 ↑(Bs.word fs[k] 1)) (.int .u64 ↑(Bs.word fs[k] 2)) (.int .u64 ↑(Bs.word fs[k] 3))
      have a0 := Bs.or_i (Bs.orL (fs.take k)) fs[k] 0; have a1 := Bs.or_i (Bs.orL (fs.take k)) fs[k] 1; have a2 := Bs.or_i (Bs.orL (fs.take k)) fs[k] 2; have a3 := Bs.or_i (Bs.orL (fs.take k)) fs[k] 3
      have A := Bs.below1 wr (.cells #[.int .u64 ↑(Bs.word fs[k] 0), .int .u64 ↑(Bs.word fs[k] 1), .int .u64 ↑(Bs.word fs[k] 2), .int .u64 ↑(Bs.word fs[k] 3)] 44)
      have Y := Bs.box_new wr fs[k] 44
      have B1' := B1.up A
      have y0 := Y.cell 0 (by decide); have y1 := Y.cell 1 (by decide); have y2 := Y.cell 2 (by decide); have y3 := Y.cell 3 (by decide)
      have b0 := B1'.cell 0 (by decide); have b1 := B1'.cell 1 (by decide); have b2 := B1'.cell 2 (by decide); have b3 := B1'.cell 3 (by decide)
      have g0 := B1'.frz 0 (by decide); have g1 := B1'.frz 1 (by decide); have g2 := B1'.frz 2 (by decide); have g3 := B1'.frz 3 (by decide)
      go_wp2_with fail
      generalize wr.alloc (.cells #[.int .u64 ↑(Bs.word fs[k] 0), .int .u64 ↑(Bs.word fs[k] 1), .int .u64 ↑(Bs.word fs[k] 2), .int .u64 ↑(Bs.word fs[k] 3)] 44) = V at *
      refine wp_loop_rounds 5 ?_
      rw [rounds_succ]
      go_wp2_with fail
      rw [rounds_succ]
      go_wp2_with fail
      rw [rounds_succ]
      go_wp2_with fail
      rw [rounds_succ]
      go_wp2_with fail
      rw [rounds_succ]
      go_wp2_with fail
      go_roundw
      case rel =>
        refine ⟨k + 1, by omega, by go_num, ?_, (B0.up A).far4 (Ne.symm n1) _ _ _ _, Bs.set4 (Bs.below_up B A) m1 _ _ _ _⟩
        rw [HSN.out]
        exact B1'.write _
      case measure => simp [intOf]; omega
    · have e1 : fs.take k = fs := List.take_of_length_le (by omega)
      rw [e1] at B1
      clear e1
      have b0 := B1.cell 0 (by decide); have b1 := B1.cell 1 (by decide); have b2 := B1.cell 2 (by decide); have b3 := B1.cell 3 (by decide)
      have z0 := B0.cell 0 (by decide); have z1 := B0.cell 1 (by decide); have z2 := B0.cell 2 (by decide); have z3 := B0.cell 3 (by decide)
      have g0 := B0.frz 0 (by decide); have g1 := B0.frz 1 (by decide); have g2 := B0.frz 2 (by decide); have g3 := B0.frz 3 (by decide)
      go_wp2_with fail
      exact bodyPost_ret (v := .agg #[.int .u64 ↑(Bs.word (Bs.orL fs) 0), .int .u64 ↑(Bs.word (Bs.orL fs) 1), .int .u64 ↑(Bs.word (Bs.orL fs) 2), .int .u64 ↑(Bs.word (Bs.orL fs) 3)]) (by simp [results, Try.results122, go_sem, z0, z1, z2, z3]) rfl ⟨rfl, Bs.set4 B (Nat.le_refl _) _ _ _ _⟩
end Go.Proofs.Ytndenipjiclkaaa
