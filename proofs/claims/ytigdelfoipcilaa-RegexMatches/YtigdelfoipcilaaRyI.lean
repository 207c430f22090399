/- The program's expressions: what signBut answers, walked. -/
import Derived.Test.YtigdelfoipcilaaRyJ
namespace Go.Proofs.Ytigdelfoipcilaa
set_option linter.unusedVariables false
set_option linter.unusedSimpArgs false
open Go.RowKit
/-- what each operation of signBut's first region answers -/
def Px.rel1 (s : Nat → Bool) (base : Nat) : List (Value → World → Prop) := [
  fun v _ => v = Bs.val (Bs.rng 0 127),
  fun v _ => v = Bs.val s,
  fun v w => ∃ g, v = .slice (some ⟨g, 0, none⟩) 1 1 ∧ Bs.Byt w (some ⟨g, 0, none⟩) [10],
  fun v _ => v = Bs.val (Bs.ofL [10]),
  fun v w => ∃ g, v = .slice (some ⟨g, 0, none⟩) 2 2 ∧ Bs.Row w (some ⟨g, 0, none⟩) [s, Bs.ofL [10]],
  fun v _ => v = Bs.val (Bs.orL [s, Bs.ofL [10]]),
  fun v _ => v = Bs.val (fun c => Bs.rng 0 127 c && !Bs.orL [s, Bs.ofL [10]] c),
  fun v w => ∃ g, v = .pointer (some ⟨g, 0, none⟩) ∧ base ≤ g ∧ Bs.Box w g (fun _ => false)]
theorem Px.rel1_up (s : Nat → Bool) (base : Nat) : Rg.Ups (Px.rel1 s base) := by
  refine ⟨?_, ?_, ?_, ?_, ?_, ?_, ?_, ?_, trivial⟩
  all_goals intro v w w' h hb
  all_goals (first | exact h | (obtain ⟨g, e, h⟩ := h; exact ⟨g, e, h.up hb⟩) | (obtain ⟨g, e, h1, h⟩ := h; exact ⟨g, e, h1, h.up hb⟩))
structure Px.W1 (s : Nat → Bool) (w0 w : World) : Prop where
  box : Bs.Box w w0.heap.size s
  nod : Rx.Nod w (w0.heap.size + 1) 0 (fun _ => false) none 0 0
  bel : Below w0.heap.size w0 w
theorem Px.W1.up {s : Nat → Bool} {w0 w w' : World} (h : Px.W1 s w0 w) (hb : Below w.heap.size w w') : Px.W1 s w0 w' := ⟨h.box.up hb, h.nod.up hb, Bs.below_up h.bel hb⟩
theorem Px.row_two (u : World) (f g : Nat → Bool) : Bs.Row (u.alloc (.cells #[.int .u64 (Bs.word f 0), .int .u64 (Bs.word f 1), .int .u64 (Bs.word f 2), .int .u64 (Bs.word f 3), .int .u64 (Bs.word g 0), .int .u64 (Bs.word g 1), .int .u64 (Bs.word g 2), .int .u64 (Bs.word g 3)] 25)) (some ⟨u.heap.size, 0, none⟩) [f, g] := by
  intro i hi
  simp at hi
  have : i = 0 ∨ i = 1 := by omega
  rcases this with rfl | rfl
  · refine ⟨_, rfl, ⟨?_, ?_, ?_, ?_⟩⟩ <;> simp [go_sem, Addr.add]
  · refine ⟨_, rfl, ⟨?_, ?_, ?_, ?_⟩⟩ <;> simp [go_sem, Addr.add]
/-- what each operation of signBut's second region answers: L the low bytes, base above which all lies -/
def Px.rel3 (L : Nat → Bool) (base : Nat) : List (Value → World → Prop) := [
  fun v _ => v = Bs.val L,
  fun v w => Rx.IsB w (base ≤ ·) (Rx.one L) v,
  fun v w => Rx.IsB w (base ≤ ·) (Rx.one (Rx.rng 194 223)) v,
  fun v w => Rx.IsB w (base ≤ ·) (Rx.one (Rx.rng 128 191)) v,
  fun v w => ∃ g, v = .slice (some ⟨g, 0, none⟩) 2 2 ∧ Rx.InBL w (base ≤ ·) [Rx.one (Rx.rng 194 223), Rx.one (Rx.rng 128 191)] (some ⟨g, 0, none⟩) 0,
  fun v w => Rx.IsB w (base ≤ ·) (.node 2 (fun _ => false) [Rx.one (Rx.rng 194 223), Rx.one (Rx.rng 128 191)]) v,
  fun v w => Rx.IsB w (base ≤ ·) (Rx.one (Rx.rng 224 239)) v,
  fun v w => Rx.IsB w (base ≤ ·) (Rx.one (Rx.rng 128 191)) v,
  fun v w => Rx.IsB w (base ≤ ·) (Rx.one (Rx.rng 128 191)) v,
  fun v w => ∃ g, v = .slice (some ⟨g, 0, none⟩) 3 3 ∧ Rx.InBL w (base ≤ ·) [Rx.one (Rx.rng 224 239), Rx.one (Rx.rng 128 191), Rx.one (Rx.rng 128 191)] (some ⟨g, 0, none⟩) 0,
  fun v w => Rx.IsB w (base ≤ ·) (.node 2 (fun _ => false) [Rx.one (Rx.rng 224 239), Rx.one (Rx.rng 128 191), Rx.one (Rx.rng 128 191)]) v,
  fun v w => Rx.IsB w (base ≤ ·) (Rx.one (Rx.rng 240 244)) v,
  fun v w => Rx.IsB w (base ≤ ·) (Rx.one (Rx.rng 128 191)) v,
  fun v w => Rx.IsB w (base ≤ ·) (Rx.one (Rx.rng 128 191)) v,
  fun v w => Rx.IsB w (base ≤ ·) (Rx.one (Rx.rng 128 191)) v,
  fun v w => ∃ g, v = .slice (some ⟨g, 0, none⟩) 4 4 ∧ Rx.InBL w (base ≤ ·) [Rx.one (Rx.rng 240 244), Rx.one (Rx.rng 128 191), Rx.one (Rx.rng 128 191), Rx.one (Rx.rng 128 191)] (some ⟨g, 0, none⟩) 0,
  fun v w => Rx.IsB w (base ≤ ·) (.node 2 (fun _ => false) [Rx.one (Rx.rng 240 244), Rx.one (Rx.rng 128 191), Rx.one (Rx.rng 128 191), Rx.one (Rx.rng 128 191)]) v,
  fun v w => ∃ g, v = .slice (some ⟨g, 0, none⟩) 4 4 ∧ Rx.InBL w (base ≤ ·) [Rx.one L, (.node 2 (fun _ => false) [Rx.one (Rx.rng 194 223), Rx.one (Rx.rng 128 191)]), (.node 2 (fun _ => false) [Rx.one (Rx.rng 224 239), Rx.one (Rx.rng 128 191), Rx.one (Rx.rng 128 191)]), (.node 2 (fun _ => false) [Rx.one (Rx.rng 240 244), Rx.one (Rx.rng 128 191), Rx.one (Rx.rng 128 191), Rx.one (Rx.rng 128 191)])] (some ⟨g, 0, none⟩) 0,
  fun v w => Rx.IsB w (base ≤ ·) (.node 3 (fun _ => false) [Rx.one L, (.node 2 (fun _ => false) [Rx.one (Rx.rng 194 223), Rx.one (Rx.rng 128 191)]), (.node 2 (fun _ => false) [Rx.one (Rx.rng 224 239), Rx.one (Rx.rng 128 191), Rx.one (Rx.rng 128 191)]), (.node 2 (fun _ => false) [Rx.one (Rx.rng 240 244), Rx.one (Rx.rng 128 191), Rx.one (Rx.rng 128 191), Rx.one (Rx.rng 128 191)])]) v]
theorem Px.rel3_up (L : Nat → Bool) (base : Nat) : Rg.Ups (Px.rel3 L base) := by
  refine ⟨?_, ?_, ?_, ?_, ?_, ?_, ?_, ?_, ?_, ?_, ?_, ?_, ?_, ?_, ?_, ?_, ?_, ?_, ?_, trivial⟩
  all_goals intro v w w' h hb
  all_goals (first | exact h | exact Rx.IsB.up hb h | (obtain ⟨g, e, h⟩ := h; exact ⟨g, e, h.up hb⟩))
/-- what stands while signBut's second region runs -/
structure Px.W3 (L : Nat → Bool) (w0 : World) (g g4 k : Nat) (f : Nat → Bool) (a : Option Addr) (n cap : Nat) (w : World) : Prop where
  low : Bs.Box w g L
  nxt : Rx.Nod w g4 k f a n cap
  is : Rx.IsB w (w0.heap.size + 2 ≤ ·) (Rx.one (Rx.rng 128 191)) (Rx.hdr k f a n cap)
  nod : Rx.Nod w (w0.heap.size + 1) 0 (fun _ => false) none 0 0
  bel : Below w0.heap.size w0 w
theorem Px.W3.up {L : Nat → Bool} {w0 : World} {g g4 k : Nat} {f : Nat → Bool} {a : Option Addr} {n cap : Nat} {w w' : World} (h : Px.W3 L w0 g g4 k f a n cap w) (hb : Below w.heap.size w w') : Px.W3 L w0 g g4 k f a n cap w' := ⟨h.low.up hb, h.nxt.up hb, h.is.up hb, h.nod.up hb, Bs.below_up h.bel hb⟩
theorem Px.W3.sz {L : Nat → Bool} {w0 : World} {g g4 k : Nat} {f : Nat → Bool} {a : Option Addr} {n cap : Nat} {w : World} (h : Px.W3 L w0 g g4 k f a n cap w) : w0.heap.size + 2 ≤ w.heap.size := h.nod.lt
theorem Px.low_is (s : Nat → Bool) : (fun c => Bs.rng 0 127 c && !Bs.orL [s, Bs.ofL [10]] c) = fun c => decide (c < 128) && !(s c || Rx.rng 10 10 c) := by
  funext c
  rw [Bool.eq_iff_iff]
  cases hs : s c <;> simp [Bs.rng, Bs.orL, Bs.ofL, Rx.rng, hs] <;> omega
set_option maxRecDepth 100000 in
set_option maxHeartbeats 8000000 in
theorem signBut_any (s : Nat → Bool) (w : World) : Calls Try.prog 108 #[Bs.val s] w (Px.XPost w (w.heap.size ≤ ·) (Rx.but fun c => s c || Rx.rng 10 10 c)) := by
  have X := (Bs.box_new w s 25).up (Bs.below1 _ (.cells #[.int .u8 0, .int .u64 0, .int .u64 0, .int .u64 0, .int .u64 0, .slice none 0 0] 28))
  have N := Rx.nod_zero (w.alloc (.cells #[.int .u64 (Bs.word s 0), .int .u64 (Bs.word s 1), .int .u64 (Bs.word s 2), .int .u64 (Bs.word s 3)] 25))
  have eN : (w.alloc (.cells #[.int .u64 (Bs.word s 0), .int .u64 (Bs.word s 1), .int .u64 (Bs.word s 2), .int .u64 (Bs.word s 3)] 25)).heap.size = w.heap.size + 1 := by simp [go_sem]
  rw [eN] at N
  have W1 : Px.W1 s w _ := ⟨X, N, Bs.below2 w _ _⟩
  clear X N eN
  unfold Bs.val
  go_enter Try.func108, Try.ntmps108
  go_upto_region 1 with fail
  generalize (w.alloc (.cells #[.int .u64 (Bs.word s 0), .int .u64 (Bs.word s 1), .int .u64 (Bs.word s 2), .int .u64 (Bs.word s 3)] 25)).alloc (.cells #[.int .u8 0, .int .u64 0, .int .u64 0, .int .u64 0, .int .u64 0, .slice none 0 0] 28) = W at *
  refine Rg.regionT (by kernel_rfl) (by kernel_rfl) (by kernel_rfl) (by decide) (Rg.rel (Px.rel1 s (w.heap.size + 2))) (Px.W1 s w) (fun w w' => Below w.heap.size w w') (fun i v w w' h _ hb => Rg.rel_up (Px.rel1_up _ _) h hb) (W1.up (Below.refl _ _).drew) ⟨?_, ?_, ?_, ?_, ?_, ?_, ?_, ?_, trivial⟩ ?_
  · intro f u hw hd
    have HW := Lib.hid hw
    clear hw hd
    simp only [Rg.step, Rg.all, Act.put, List.setIfInBounds_toArray, List.set_cons_zero, List.set_cons_succ]
    go_simp
    refine (rangeB_any 0 127 u).mono ?_
    rintro e u1 ⟨rfl, hb⟩
    exact ⟨_, rfl, rfl, HW.out.up hb, hb⟩
  · intro f u hw hd
    have c0 := hw.box.cell 0 (by decide); have c1 := hw.box.cell 1 (by decide); have c2 := hw.box.cell 2 (by decide); have c3 := hw.box.cell 3 (by decide)
    have HW := Lib.hid hw
    clear hw hd
    simp only [Rg.step, Rg.all, Act.put, List.setIfInBounds_toArray, List.set_cons_zero, List.set_cons_succ]
    go_simp
    first | exact ⟨rfl, HW.out, Below.refl _ _⟩ | exact ⟨HW.out, Below.refl _ _⟩
  · intro f u hw hd
    have HW := Lib.hid hw
    clear hw hd
    simp only [Rg.step, Rg.all, Act.put, List.setIfInBounds_toArray, List.set_cons_zero, List.set_cons_succ]
    go_simp
    exact ⟨⟨_, rfl, Px.byt_one u 10 _⟩, HW.out.up (Bs.below1 u _), Bs.below1 u _⟩
  · intro f u hw hd
    obtain ⟨g, e2, hb2⟩ : Rg.rel (Px.rel1 s (w.heap.size + 2)) 2 (f 2) u := hd _ (List.mem_cons_self ..)
    have HW := Lib.hid hw
    clear hw hd
    simp only [Rg.step, Rg.all, Act.put, List.setIfInBounds_toArray, List.set_cons_zero, List.set_cons_succ]
    go_simp
    refine (ofB_any _ [10] 1 u hb2 (by simp) (by simp)).mono ?_
    rintro e u1 ⟨rfl, hb⟩
    exact ⟨_, rfl, rfl, HW.out.up hb, hb⟩
  · intro f u hw hd
    have e1 : f 1 = Bs.val s := hd _ (List.mem_cons_self ..)
    have e3 : f 3 = Bs.val (Bs.ofL [10]) := hd _ (List.mem_cons_of_mem _ (List.mem_cons_self ..))
    unfold Bs.val at e1 e3
    have HW := Lib.hid hw
    clear hw hd
    simp only [Rg.step, Rg.all, Act.put, List.setIfInBounds_toArray, List.set_cons_zero, List.set_cons_succ]
    go_simp
    exact ⟨⟨_, rfl, Px.row_two u s (Bs.ofL [10])⟩, HW.out.up (Bs.below1 u _), Bs.below1 u _⟩
  · intro f u hw hd
    obtain ⟨g, e4, hb4⟩ : Rg.rel (Px.rel1 s (w.heap.size + 2)) 4 (f 4) u := hd _ (List.mem_cons_self ..)
    have HW := Lib.hid hw
    clear hw hd
    simp only [Rg.step, Rg.all, Act.put, List.setIfInBounds_toArray, List.set_cons_zero, List.set_cons_succ]
    go_simp
    refine (orB_any _ [s, Bs.ofL [10]] 2 u hb4 (by simp)).mono ?_
    rintro e u1 ⟨rfl, hb⟩
    exact ⟨_, rfl, rfl, HW.out.up hb, hb⟩
  · intro f u hw hd
    have e0 : f 0 = Bs.val (Bs.rng 0 127) := hd _ (List.mem_cons_self ..)
    have e5 : f 5 = Bs.val (Bs.orL [s, Bs.ofL [10]]) := hd _ (List.mem_cons_of_mem _ (List.mem_cons_self ..))
    have HW := Lib.hid hw
    clear hw hd
    simp only [Rg.step, Rg.all, Act.put, List.setIfInBounds_toArray, List.set_cons_zero, List.set_cons_succ]
    go_simp
    refine (lessB_any _ _ u).mono ?_
    rintro e u1 ⟨rfl, hb⟩
    exact ⟨_, rfl, rfl, HW.out.up hb, hb⟩
  · intro f u hw hd
    have hsz : w.heap.size + 2 ≤ u.heap.size := hw.nod.lt
    have HW := Lib.hid hw
    clear hw hd
    simp only [Rg.step, Rg.all, Act.put, List.setIfInBounds_toArray, List.set_cons_zero, List.set_cons_succ]
    go_simp
    exact ⟨⟨_, rfl, hsz, Bs.box_zero u _⟩, HW.out.up (Bs.below1 u _), Bs.below1 u _⟩
  · intro f u hw hR o ho
    have e6 : f 6 = _ := hR 6 (by decide)
    obtain ⟨g, e7, hg, Bx⟩ : Rg.rel (Px.rel1 s (w.heap.size + 2)) 7 (f 7) u := hR 7 (by decide)
    simp at ho
    subst ho
    have z0 := Bx.cell 0 (by decide); have z1 := Bx.cell 1 (by decide); have z2 := Bx.cell 2 (by decide); have z3 := Bx.cell 3 (by decide)
    have g0 := Bx.frz 0 (by decide); have g1 := Bx.frz 1 (by decide); have g2 := Bx.frz 2 (by decide); have g3 := Bx.frz 3 (by decide)
    unfold Bs.val at e6
    simp only [Rg.step, Rg.all, Act.put, List.setIfInBounds_toArray, List.set_cons_zero, List.set_cons_succ]
    go_simp
    have B1 := Bx.write (fun c => Bs.rng 0 127 c && !Bs.orL [s, Bs.ofL [10]] c)
    have n1 : g ≠ w.heap.size + 1 := by omega
    have N1 : Rx.Nod ((((u.setCell ⟨g, 0, none⟩ (.int .u64 (Bs.word (fun c => Bs.rng 0 127 c && !Bs.orL [s, Bs.ofL [10]] c) 0))).setCell ⟨g, 1, none⟩ (.int .u64 (Bs.word (fun c => Bs.rng 0 127 c && !Bs.orL [s, Bs.ofL [10]] c) 1))).setCell ⟨g, 2, none⟩ (.int .u64 (Bs.word (fun c => Bs.rng 0 127 c && !Bs.orL [s, Bs.ofL [10]] c) 2))).setCell ⟨g, 3, none⟩ (.int .u64 (Bs.word (fun c => Bs.rng 0 127 c && !Bs.orL [s, Bs.ofL [10]] c) 3))) (w.heap.size + 1) 0 (fun _ => false) none 0 0 :=
      hw.nod.grown (Rx.grown_set (Rx.grown_set (Rx.grown_set (Rx.grown_set (Rx.grown_of g (Below.refl _ _)) _ _) _ _) _ _) _ _) (Ne.symm n1)
    have L1 := Bs.set4 hw.bel (b := g) (by omega) (.int .u64 (Bs.word (fun c => Bs.rng 0 127 c && !Bs.orL [s, Bs.ofL [10]] c) 0)) (.int .u64 (Bs.word (fun c => Bs.rng 0 127 c && !Bs.orL [s, Bs.ofL [10]] c) 1)) (.int .u64 (Bs.word (fun c => Bs.rng 0 127 c && !Bs.orL [s, Bs.ofL [10]] c) 2)) (.int .u64 (Bs.word (fun c => Bs.rng 0 127 c && !Bs.orL [s, Bs.ofL [10]] c) 3))
    have HL := Lib.hid (Px.low_is s)
    generalize (fun c => Bs.rng 0 127 c && !Bs.orL [s, Bs.ofL [10]] c) = L at *
    clear z0 z1 z2 z3 g0 g1 g2 g3 Bx hw hR e6 W1
    generalize (((u.setCell ⟨g, 0, none⟩ (.int .u64 (Bs.word L 0))).setCell ⟨g, 1, none⟩ (.int .u64 (Bs.word L 1))).setCell ⟨g, 2, none⟩ (.int .u64 (Bs.word L 2))).setCell ⟨g, 3, none⟩ (.int .u64 (Bs.word L 3)) = V at *
    generalize f 0 = v0 at *
    generalize f 1 = v1 at *
    generalize f 2 = v2 at *
    generalize f 3 = v3 at *
    generalize f 4 = v4 at *
    generalize f 5 = v5 at *
    clear e7
    clear f
    go_wp2_with fail
    refine (pspan_any 128 191 (w.heap.size + 2 ≤ ·) V).mono ?_
    rintro e u1 ⟨v12, rfl, hx, hb⟩
    replace B1 := B1.up hb
    replace N1 := N1.up hb
    replace L1 := Bs.below_up L1 hb
    clear hb
    obtain ⟨k, fk, a, n, cap, rfl⟩ := hx.form
    have A := Bs.below1 u1 (.cells #[.int .u8 k, .int .u64 (Bs.word fk 0), .int .u64 (Bs.word fk 1), .int .u64 (Bs.word fk 2), .int .u64 (Bs.word fk 3), .slice a n cap] 28)
    have W3 : Px.W3 L w g u1.heap.size k fk a n cap _ := ⟨B1.up A, Rx.nod_new u1 k fk a n cap, hx.up A, N1.up A, Bs.below_up L1 A⟩
    clear B1 N1 L1 A hx
    unfold Rx.hdr
    go_upto_region 3 with fail
    generalize u1.alloc (.cells #[.int .u8 k, .int .u64 (Bs.word fk 0), .int .u64 (Bs.word fk 1), .int .u64 (Bs.word fk 2), .int .u64 (Bs.word fk 3), .slice a n cap] 28) = V1 at *
    generalize u1.heap.size = G at *
    refine Rg.regionT (by kernel_rfl) (by kernel_rfl) (by kernel_rfl) (by decide) (Rg.rel (Px.rel3 L (w.heap.size + 2))) (Px.W3 L w g G k fk a n cap) (fun w w' => Below w.heap.size w w') (fun i v w w' h _ hb => Rg.rel_up (Px.rel3_up _ _) h hb) (W3.up (Below.refl _ _).drew) ⟨?_, ?_, ?_, ?_, ?_, ?_, ?_, ?_, ?_, ?_, ?_, ?_, ?_, ?_, ?_, ?_, ?_, ?_, ?_, trivial⟩ ?_
    · intro f u hw hd
      have c0 := hw.low.cell 0 (by decide); have c1 := hw.low.cell 1 (by decide); have c2 := hw.low.cell 2 (by decide); have c3 := hw.low.cell 3 (by decide)
      have HW := Lib.hid hw
      clear hw hd
      simp only [Rg.step, Rg.all, Act.put, List.setIfInBounds_toArray, List.set_cons_zero, List.set_cons_succ]
      go_simp
      first | exact ⟨rfl, HW.out, Below.refl _ _⟩ | exact ⟨HW.out, Below.refl _ _⟩
    · intro f u hw hd
      have e0 : f 0 = Bs.val L := hd _ (List.mem_cons_self ..)
      have HW := Lib.hid hw
      clear hw hd
      simp only [Rg.step, Rg.all, Act.put, List.setIfInBounds_toArray, List.set_cons_zero, List.set_cons_succ]
      go_simp
      refine (pone_any L (w.heap.size + 2 ≤ ·) u).mono ?_
      rintro e u1 ⟨v, rfl, hx, hb⟩
      exact ⟨_, rfl, hx, HW.out.up hb, hb⟩
    · intro f u hw hd
      have HW := Lib.hid hw
      clear hw hd
      simp only [Rg.step, Rg.all, Act.put, List.setIfInBounds_toArray, List.set_cons_zero, List.set_cons_succ]
      go_simp
      refine (pspan_any 194 223 (w.heap.size + 2 ≤ ·) u).mono ?_
      rintro e u1 ⟨v, rfl, hx, hb⟩
      exact ⟨_, rfl, hx, HW.out.up hb, hb⟩
    · intro f u hw hd
      have HW := Lib.hid hw
      clear hw hd
      simp only [Rg.step, Rg.all, Act.put, List.setIfInBounds_toArray, List.set_cons_zero, List.set_cons_succ]
      have c0 := HW.out.nxt.cell.c0; have c1 := HW.out.nxt.cell.c1; have c2 := HW.out.nxt.cell.c2; have c3 := HW.out.nxt.cell.c3; have c4 := HW.out.nxt.cell.c4; have c5 := HW.out.nxt.cell.c5
      simp only [Nat.zero_add] at c0 c1 c2 c3 c4 c5
      go_simp
      exact ⟨HW.out.is, HW.out, Below.refl _ _⟩
    · intro f u hw hd
      have r2 : Rx.IsB u (w.heap.size + 2 ≤ ·) (Rx.one (Rx.rng 194 223)) (f 2) := hd _ (List.mem_cons_self ..)
      have r3 : Rx.IsB u (w.heap.size + 2 ≤ ·) (Rx.one (Rx.rng 128 191)) (f 3) := hd _ (List.mem_cons_of_mem _ (List.mem_cons_self ..))
      have q := r2.form
      obtain ⟨k2, f2, a2, n2, c2, e2⟩ := q
      rw [e2] at r2
      have R2 := Lib.hid r2
      clear r2
      unfold Rx.hdr at e2
      have q := r3.form
      obtain ⟨k3, f3, a3, n3, c3, e3⟩ := q
      rw [e3] at r3
      have R3 := Lib.hid r3
      clear r3
      unfold Rx.hdr at e3
      have hsz := hw.sz
      have HW := Lib.hid hw
      clear hw hd
      simp only [Rg.step, Rg.all, Act.put, List.setIfInBounds_toArray, List.set_cons_zero, List.set_cons_succ]
      go_simp
      exact ⟨⟨_, rfl, Rx.built (B := (w.heap.size + 2 ≤ ·)) (xs := [(Rx.one (Rx.rng 194 223)), (Rx.one (Rx.rng 128 191))]) (cs := Rx.six k2 f2 a2 n2 c2 ++ (Rx.six k3 f3 a3 n3 c3 ++ ([]))) ⟨k2, f2, a2, n2, c2, _, rfl, R2.out, ⟨k3, f3, a3, n3, c3, _, rfl, R3.out, rfl⟩⟩ hsz rfl⟩, HW.out.up (Bs.below1 u _), Bs.below1 u _⟩
    · intro f u hw hd
      obtain ⟨g5, e5, h5⟩ : ∃ g, f 4 = .slice (some ⟨g, 0, none⟩) 2 2 ∧ Rx.InBL u (w.heap.size + 2 ≤ ·) [Rx.one (Rx.rng 194 223), Rx.one (Rx.rng 128 191)] (some ⟨g, 0, none⟩) 0 := hd _ (List.mem_cons_self ..)
      have H5 := Lib.hid h5
      clear h5
      have HW := Lib.hid hw
      clear hw hd
      simp only [Rg.step, Rg.all, Act.put, List.setIfInBounds_toArray, List.set_cons_zero, List.set_cons_succ]
      go_simp
      refine (joined_any 2 (by decide) [Rx.one (Rx.rng 194 223), Rx.one (Rx.rng 128 191)] _ 2 _ u H5.out).mono ?_
      rintro e u1 ⟨v, rfl, hx, hb⟩
      exact ⟨_, rfl, hx, HW.out.up hb, hb⟩
    · intro f u hw hd
      have HW := Lib.hid hw
      clear hw hd
      simp only [Rg.step, Rg.all, Act.put, List.setIfInBounds_toArray, List.set_cons_zero, List.set_cons_succ]
      go_simp
      refine (pspan_any 224 239 (w.heap.size + 2 ≤ ·) u).mono ?_
      rintro e u1 ⟨v, rfl, hx, hb⟩
      exact ⟨_, rfl, hx, HW.out.up hb, hb⟩
    · intro f u hw hd
      have HW := Lib.hid hw
      clear hw hd
      simp only [Rg.step, Rg.all, Act.put, List.setIfInBounds_toArray, List.set_cons_zero, List.set_cons_succ]
      have c0 := HW.out.nxt.cell.c0; have c1 := HW.out.nxt.cell.c1; have c2 := HW.out.nxt.cell.c2; have c3 := HW.out.nxt.cell.c3; have c4 := HW.out.nxt.cell.c4; have c5 := HW.out.nxt.cell.c5
      simp only [Nat.zero_add] at c0 c1 c2 c3 c4 c5
      go_simp
      exact ⟨HW.out.is, HW.out, Below.refl _ _⟩
    · intro f u hw hd
      have HW := Lib.hid hw
      clear hw hd
      simp only [Rg.step, Rg.all, Act.put, List.setIfInBounds_toArray, List.set_cons_zero, List.set_cons_succ]
      have c0 := HW.out.nxt.cell.c0; have c1 := HW.out.nxt.cell.c1; have c2 := HW.out.nxt.cell.c2; have c3 := HW.out.nxt.cell.c3; have c4 := HW.out.nxt.cell.c4; have c5 := HW.out.nxt.cell.c5
      simp only [Nat.zero_add] at c0 c1 c2 c3 c4 c5
      go_simp
      exact ⟨HW.out.is, HW.out, Below.refl _ _⟩
    · intro f u hw hd
      have r6 : Rx.IsB u (w.heap.size + 2 ≤ ·) (Rx.one (Rx.rng 224 239)) (f 6) := hd _ (List.mem_cons_self ..)
      have r7 : Rx.IsB u (w.heap.size + 2 ≤ ·) (Rx.one (Rx.rng 128 191)) (f 7) := hd _ (List.mem_cons_of_mem _ (List.mem_cons_self ..))
      have r8 : Rx.IsB u (w.heap.size + 2 ≤ ·) (Rx.one (Rx.rng 128 191)) (f 8) := hd _ (List.mem_cons_of_mem _ (List.mem_cons_of_mem _ (List.mem_cons_self ..)))
      have q := r6.form
      obtain ⟨k6, f6, a6, n6, c6, e6⟩ := q
      rw [e6] at r6
      have R6 := Lib.hid r6
      clear r6
      unfold Rx.hdr at e6
      have q := r7.form
      obtain ⟨k7, f7, a7, n7, c7, e7⟩ := q
      rw [e7] at r7
      have R7 := Lib.hid r7
      clear r7
      unfold Rx.hdr at e7
      have q := r8.form
      obtain ⟨k8, f8, a8, n8, c8, e8⟩ := q
      rw [e8] at r8
      have R8 := Lib.hid r8
      clear r8
      unfold Rx.hdr at e8
      have hsz := hw.sz
      have HW := Lib.hid hw
      clear hw hd
      simp only [Rg.step, Rg.all, Act.put, List.setIfInBounds_toArray, List.set_cons_zero, List.set_cons_succ]
      go_simp
      exact ⟨⟨_, rfl, Rx.built (B := (w.heap.size + 2 ≤ ·)) (xs := [(Rx.one (Rx.rng 224 239)), (Rx.one (Rx.rng 128 191)), (Rx.one (Rx.rng 128 191))]) (cs := Rx.six k6 f6 a6 n6 c6 ++ (Rx.six k7 f7 a7 n7 c7 ++ (Rx.six k8 f8 a8 n8 c8 ++ ([])))) ⟨k6, f6, a6, n6, c6, _, rfl, R6.out, ⟨k7, f7, a7, n7, c7, _, rfl, R7.out, ⟨k8, f8, a8, n8, c8, _, rfl, R8.out, rfl⟩⟩⟩ hsz rfl⟩, HW.out.up (Bs.below1 u _), Bs.below1 u _⟩
    · intro f u hw hd
      obtain ⟨g5, e5, h5⟩ : ∃ g, f 9 = .slice (some ⟨g, 0, none⟩) 3 3 ∧ Rx.InBL u (w.heap.size + 2 ≤ ·) [Rx.one (Rx.rng 224 239), Rx.one (Rx.rng 128 191), Rx.one (Rx.rng 128 191)] (some ⟨g, 0, none⟩) 0 := hd _ (List.mem_cons_self ..)
      have H5 := Lib.hid h5
      clear h5
      have HW := Lib.hid hw
      clear hw hd
      simp only [Rg.step, Rg.all, Act.put, List.setIfInBounds_toArray, List.set_cons_zero, List.set_cons_succ]
      go_simp
      refine (joined_any 2 (by decide) [Rx.one (Rx.rng 224 239), Rx.one (Rx.rng 128 191), Rx.one (Rx.rng 128 191)] _ 3 _ u H5.out).mono ?_
      rintro e u1 ⟨v, rfl, hx, hb⟩
      exact ⟨_, rfl, hx, HW.out.up hb, hb⟩
    · intro f u hw hd
      have HW := Lib.hid hw
      clear hw hd
      simp only [Rg.step, Rg.all, Act.put, List.setIfInBounds_toArray, List.set_cons_zero, List.set_cons_succ]
      go_simp
      refine (pspan_any 240 244 (w.heap.size + 2 ≤ ·) u).mono ?_
      rintro e u1 ⟨v, rfl, hx, hb⟩
      exact ⟨_, rfl, hx, HW.out.up hb, hb⟩
    · intro f u hw hd
      have HW := Lib.hid hw
      clear hw hd
      simp only [Rg.step, Rg.all, Act.put, List.setIfInBounds_toArray, List.set_cons_zero, List.set_cons_succ]
      have c0 := HW.out.nxt.cell.c0; have c1 := HW.out.nxt.cell.c1; have c2 := HW.out.nxt.cell.c2; have c3 := HW.out.nxt.cell.c3; have c4 := HW.out.nxt.cell.c4; have c5 := HW.out.nxt.cell.c5
      simp only [Nat.zero_add] at c0 c1 c2 c3 c4 c5
      go_simp
      exact ⟨HW.out.is, HW.out, Below.refl _ _⟩
    · intro f u hw hd
      have HW := Lib.hid hw
      clear hw hd
      simp only [Rg.step, Rg.all, Act.put, List.setIfInBounds_toArray, List.set_cons_zero, List.set_cons_succ]
      have c0 := HW.out.nxt.cell.c0; have c1 := HW.out.nxt.cell.c1; have c2 := HW.out.nxt.cell.c2; have c3 := HW.out.nxt.cell.c3; have c4 := HW.out.nxt.cell.c4; have c5 := HW.out.nxt.cell.c5
      simp only [Nat.zero_add] at c0 c1 c2 c3 c4 c5
      go_simp
      exact ⟨HW.out.is, HW.out, Below.refl _ _⟩
    · intro f u hw hd
      have HW := Lib.hid hw
      clear hw hd
      simp only [Rg.step, Rg.all, Act.put, List.setIfInBounds_toArray, List.set_cons_zero, List.set_cons_succ]
      have c0 := HW.out.nxt.cell.c0; have c1 := HW.out.nxt.cell.c1; have c2 := HW.out.nxt.cell.c2; have c3 := HW.out.nxt.cell.c3; have c4 := HW.out.nxt.cell.c4; have c5 := HW.out.nxt.cell.c5
      simp only [Nat.zero_add] at c0 c1 c2 c3 c4 c5
      go_simp
      exact ⟨HW.out.is, HW.out, Below.refl _ _⟩
    · intro f u hw hd
      have r11 : Rx.IsB u (w.heap.size + 2 ≤ ·) (Rx.one (Rx.rng 240 244)) (f 11) := hd _ (List.mem_cons_self ..)
      have r12 : Rx.IsB u (w.heap.size + 2 ≤ ·) (Rx.one (Rx.rng 128 191)) (f 12) := hd _ (List.mem_cons_of_mem _ (List.mem_cons_self ..))
      have r13 : Rx.IsB u (w.heap.size + 2 ≤ ·) (Rx.one (Rx.rng 128 191)) (f 13) := hd _ (List.mem_cons_of_mem _ (List.mem_cons_of_mem _ (List.mem_cons_self ..)))
      have r14 : Rx.IsB u (w.heap.size + 2 ≤ ·) (Rx.one (Rx.rng 128 191)) (f 14) := hd _ (List.mem_cons_of_mem _ (List.mem_cons_of_mem _ (List.mem_cons_of_mem _ (List.mem_cons_self ..))))
      have q := r11.form
      obtain ⟨k11, f11, a11, n11, c11, e11⟩ := q
      rw [e11] at r11
      have R11 := Lib.hid r11
      clear r11
      unfold Rx.hdr at e11
      have q := r12.form
      obtain ⟨k12, f12, a12, n12, c12, e12⟩ := q
      rw [e12] at r12
      have R12 := Lib.hid r12
      clear r12
      unfold Rx.hdr at e12
      have q := r13.form
      obtain ⟨k13, f13, a13, n13, c13, e13⟩ := q
      rw [e13] at r13
      have R13 := Lib.hid r13
      clear r13
      unfold Rx.hdr at e13
      have q := r14.form
      obtain ⟨k14, f14, a14, n14, c14, e14⟩ := q
      rw [e14] at r14
      have R14 := Lib.hid r14
      clear r14
      unfold Rx.hdr at e14
      have hsz := hw.sz
      have HW := Lib.hid hw
      clear hw hd
      simp only [Rg.step, Rg.all, Act.put, List.setIfInBounds_toArray, List.set_cons_zero, List.set_cons_succ]
      go_simp
      exact ⟨⟨_, rfl, Rx.built (B := (w.heap.size + 2 ≤ ·)) (xs := [(Rx.one (Rx.rng 240 244)), (Rx.one (Rx.rng 128 191)), (Rx.one (Rx.rng 128 191)), (Rx.one (Rx.rng 128 191))]) (cs := Rx.six k11 f11 a11 n11 c11 ++ (Rx.six k12 f12 a12 n12 c12 ++ (Rx.six k13 f13 a13 n13 c13 ++ (Rx.six k14 f14 a14 n14 c14 ++ ([]))))) ⟨k11, f11, a11, n11, c11, _, rfl, R11.out, ⟨k12, f12, a12, n12, c12, _, rfl, R12.out, ⟨k13, f13, a13, n13, c13, _, rfl, R13.out, ⟨k14, f14, a14, n14, c14, _, rfl, R14.out, rfl⟩⟩⟩⟩ hsz rfl⟩, HW.out.up (Bs.below1 u _), Bs.below1 u _⟩
    · intro f u hw hd
      obtain ⟨g5, e5, h5⟩ : ∃ g, f 15 = .slice (some ⟨g, 0, none⟩) 4 4 ∧ Rx.InBL u (w.heap.size + 2 ≤ ·) [Rx.one (Rx.rng 240 244), Rx.one (Rx.rng 128 191), Rx.one (Rx.rng 128 191), Rx.one (Rx.rng 128 191)] (some ⟨g, 0, none⟩) 0 := hd _ (List.mem_cons_self ..)
      have H5 := Lib.hid h5
      clear h5
      have HW := Lib.hid hw
      clear hw hd
      simp only [Rg.step, Rg.all, Act.put, List.setIfInBounds_toArray, List.set_cons_zero, List.set_cons_succ]
      go_simp
      refine (joined_any 2 (by decide) [Rx.one (Rx.rng 240 244), Rx.one (Rx.rng 128 191), Rx.one (Rx.rng 128 191), Rx.one (Rx.rng 128 191)] _ 4 _ u H5.out).mono ?_
      rintro e u1 ⟨v, rfl, hx, hb⟩
      exact ⟨_, rfl, hx, HW.out.up hb, hb⟩
    · intro f u hw hd
      have r1 : Rx.IsB u (w.heap.size + 2 ≤ ·) (Rx.one L) (f 1) := hd _ (List.mem_cons_self ..)
      have r5 : Rx.IsB u (w.heap.size + 2 ≤ ·) (.node 2 (fun _ => false) [Rx.one (Rx.rng 194 223), Rx.one (Rx.rng 128 191)]) (f 5) := hd _ (List.mem_cons_of_mem _ (List.mem_cons_self ..))
      have r10 : Rx.IsB u (w.heap.size + 2 ≤ ·) (.node 2 (fun _ => false) [Rx.one (Rx.rng 224 239), Rx.one (Rx.rng 128 191), Rx.one (Rx.rng 128 191)]) (f 10) := hd _ (List.mem_cons_of_mem _ (List.mem_cons_of_mem _ (List.mem_cons_self ..)))
      have r16 : Rx.IsB u (w.heap.size + 2 ≤ ·) (.node 2 (fun _ => false) [Rx.one (Rx.rng 240 244), Rx.one (Rx.rng 128 191), Rx.one (Rx.rng 128 191), Rx.one (Rx.rng 128 191)]) (f 16) := hd _ (List.mem_cons_of_mem _ (List.mem_cons_of_mem _ (List.mem_cons_of_mem _ (List.mem_cons_self ..))))
      have q := r1.form
      obtain ⟨k1, f1, a1, n1, c1, e1⟩ := q
      rw [e1] at r1
      have R1 := Lib.hid r1
      clear r1
      unfold Rx.hdr at e1
      have q := r5.form
      obtain ⟨k5, f5, a5, n5, c5, e5⟩ := q
      rw [e5] at r5
      have R5 := Lib.hid r5
      clear r5
      unfold Rx.hdr at e5
      have q := r10.form
      obtain ⟨k10, f10, a10, n10, c10, e10⟩ := q
      rw [e10] at r10
      have R10 := Lib.hid r10
      clear r10
      unfold Rx.hdr at e10
      have q := r16.form
      obtain ⟨k16, f16, a16, n16, c16, e16⟩ := q
      rw [e16] at r16
      have R16 := Lib.hid r16
      clear r16
      unfold Rx.hdr at e16
      have hsz := hw.sz
      have HW := Lib.hid hw
      clear hw hd
      simp only [Rg.step, Rg.all, Act.put, List.setIfInBounds_toArray, List.set_cons_zero, List.set_cons_succ]
      go_simp
      exact ⟨⟨_, rfl, Rx.built (B := (w.heap.size + 2 ≤ ·)) (xs := [(Rx.one L), (.node 2 (fun _ => false) [Rx.one (Rx.rng 194 223), Rx.one (Rx.rng 128 191)]), (.node 2 (fun _ => false) [Rx.one (Rx.rng 224 239), Rx.one (Rx.rng 128 191), Rx.one (Rx.rng 128 191)]), (.node 2 (fun _ => false) [Rx.one (Rx.rng 240 244), Rx.one (Rx.rng 128 191), Rx.one (Rx.rng 128 191), Rx.one (Rx.rng 128 191)])]) (cs := Rx.six k1 f1 a1 n1 c1 ++ (Rx.six k5 f5 a5 n5 c5 ++ (Rx.six k10 f10 a10 n10 c10 ++ (Rx.six k16 f16 a16 n16 c16 ++ ([]))))) ⟨k1, f1, a1, n1, c1, _, rfl, R1.out, ⟨k5, f5, a5, n5, c5, _, rfl, R5.out, ⟨k10, f10, a10, n10, c10, _, rfl, R10.out, ⟨k16, f16, a16, n16, c16, _, rfl, R16.out, rfl⟩⟩⟩⟩ hsz rfl⟩, HW.out.up (Bs.below1 u _), Bs.below1 u _⟩
    · intro f u hw hd
      obtain ⟨g5, e5, h5⟩ : ∃ g, f 17 = .slice (some ⟨g, 0, none⟩) 4 4 ∧ Rx.InBL u (w.heap.size + 2 ≤ ·) [Rx.one L, (.node 2 (fun _ => false) [Rx.one (Rx.rng 194 223), Rx.one (Rx.rng 128 191)]), (.node 2 (fun _ => false) [Rx.one (Rx.rng 224 239), Rx.one (Rx.rng 128 191), Rx.one (Rx.rng 128 191)]), (.node 2 (fun _ => false) [Rx.one (Rx.rng 240 244), Rx.one (Rx.rng 128 191), Rx.one (Rx.rng 128 191), Rx.one (Rx.rng 128 191)])] (some ⟨g, 0, none⟩) 0 := hd _ (List.mem_cons_self ..)
      have H5 := Lib.hid h5
      clear h5
      have HW := Lib.hid hw
      clear hw hd
      simp only [Rg.step, Rg.all, Act.put, List.setIfInBounds_toArray, List.set_cons_zero, List.set_cons_succ]
      go_simp
      refine (joined_any 3 (by decide) [Rx.one L, (.node 2 (fun _ => false) [Rx.one (Rx.rng 194 223), Rx.one (Rx.rng 128 191)]), (.node 2 (fun _ => false) [Rx.one (Rx.rng 224 239), Rx.one (Rx.rng 128 191), Rx.one (Rx.rng 128 191)]), (.node 2 (fun _ => false) [Rx.one (Rx.rng 240 244), Rx.one (Rx.rng 128 191), Rx.one (Rx.rng 128 191), Rx.one (Rx.rng 128 191)])] _ 4 _ u H5.out).mono ?_
      rintro e u1 ⟨v, rfl, hx, hb⟩
      exact ⟨_, rfl, hx, HW.out.up hb, hb⟩
    · intro f u hw hR o ho
      have r18 : Rx.IsB u (w.heap.size + 2 ≤ ·) (.node 3 (fun _ => false) [Rx.one L, (.node 2 (fun _ => false) [Rx.one (Rx.rng 194 223), Rx.one (Rx.rng 128 191)]), (.node 2 (fun _ => false) [Rx.one (Rx.rng 224 239), Rx.one (Rx.rng 128 191), Rx.one (Rx.rng 128 191)]), (.node 2 (fun _ => false) [Rx.one (Rx.rng 240 244), Rx.one (Rx.rng 128 191), Rx.one (Rx.rng 128 191), Rx.one (Rx.rng 128 191)])]) (f 18) := hR 18 (by decide)
      simp at ho
      subst ho
      simp only [Rg.step, Rg.all, Act.put, List.setIfInBounds_toArray, List.set_cons_zero, List.set_cons_succ]
      have q := r18.form
      obtain ⟨k9, f9, a9, n9, c9, e9⟩ := q
      rw [e9] at r18
      have R := Lib.hid r18
      have A := Lib.hid hw.bel
      have d0 := hw.nod.cell.c0; have d1 := hw.nod.cell.c1; have d2 := hw.nod.cell.c2; have d3 := hw.nod.cell.c3; have d4 := hw.nod.cell.c4; have d5 := hw.nod.cell.c5
      have y := hw.nod.frz
      simp only [Nat.zero_add] at d0 d1 d2 d3 d4 d5
      have y0 := y 0 (by decide); have y1 := y 1 (by decide); have y2 := y 2 (by decide); have y3 := y 3 (by decide); have y4 := y 4 (by decide); have y5 := y 5 (by decide)
      clear y r18 hw hR
      unfold Rx.hdr at e9
      go_simp
      go_wp2_with fail
      refine bodyPost_ret (v := Rx.hdr k9 f9 a9 n9 c9) (by simp [results, Try.results108, go_sem, Rx.hdr, d0, d1, d2, d3, d4, d5]) rfl ⟨_, rfl, ?_, ?_⟩
      · have R2 := (R.out.wr (b := w.heap.size + 1) (by omega) k9 f9 a9 n9 c9).mono (B' := (w.heap.size ≤ ·)) (fun j hj => by omega)
        rw [HL.out] at R2
        exact R2
      · exact Rx.wr_below A.out (by omega) k9 f9 a9 n9 c9
end Go.Proofs.Ytigdelfoipcilaa
