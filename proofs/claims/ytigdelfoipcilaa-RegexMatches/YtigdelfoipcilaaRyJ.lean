/- The program's expressions: what repeated answers, walked. -/
import Derived.Test.YtigdelfoipcilaaRyH
import Derived.Test.YtigdelfoipcilaaRyG
import Derived.Test.YtigdelfoipcilaaRgE
namespace Go.Proofs.Ytigdelfoipcilaa
set_option linter.unusedVariables false
set_option linter.unusedSimpArgs false
open Go.RowKit
/-- what one of * + ? makes of an expression -/
def Px.rept (x : Rx) (c : Int) : Rx := if c = 42 then Rx.star x else if c = 43 then Rx.plus x else Rx.opt x
theorem Rx.built {u : World} {B : Nat → Prop} {xs : List Rx} {cs : List Value} (h : Rx.Hs u B xs cs) (hB : B u.heap.size) {C : Array Value} (hC : C.toList = cs) : Rx.InBL (u.alloc (.cells C 28)) B xs (some ⟨u.heap.size, 0, none⟩) 0 := by
  refine Rx.Hs.inBL hB (h.turn (fun _ _ _ hc => Bs.cell_up (Bs.below1 u _) hc) (fun _ h => h)) ?_
  intro j v hv
  have := World.news_of_block (heap_alloc_new u (.cells C 28)) j v (by rw [hC]; exact hv)
  have e0 : (⟨u.heap.size, 0, none⟩ : Addr).add j = ⟨u.heap.size, j, none⟩ := by unfold Addr.add; split <;> simp_all
  rw [e0] at this
  simpa using this
/-- what each operation answers where x+ is made -/
def Px.relP (x : Rx) (h : Value) (B : Nat → Prop) : List (Value → World → Prop) := [
  fun v _ => v = h,
  fun v _ => v = h,
  fun v w => Rx.IsB w B x v,
  fun v w => Rx.IsB w B (Rx.star x) v,
  fun v w => ∃ g, v = .slice (some ⟨g, 0, none⟩) 2 2 ∧ Rx.InBL w B [x, Rx.star x] (some ⟨g, 0, none⟩) 0,
  fun v w => Rx.IsB w B (Rx.plus x) v]
theorem Px.relP_up (x : Rx) (h : Value) (B : Nat → Prop) : Rg.Ups (Px.relP x h B) := by
  refine ⟨?_, ?_, ?_, ?_, ?_, ?_, trivial⟩
  all_goals intro v w w' h hb
  all_goals (first | exact h | exact Rx.IsB.up hb h | (obtain ⟨g, e, h⟩ := h; exact ⟨g, e, h.up hb⟩))
structure Px.WP (x : Rx) (B : Nat → Prop) (w0 : World) (k : Nat) (f : Nat → Bool) (a : Option Addr) (n cap : Nat) (w : World) : Prop where
  one : Rx.Nod w w0.heap.size k f a n cap
  is : Rx.IsB w B x (Rx.hdr k f a n cap)
  nod : Rx.Nod w (w0.heap.size + 1) 0 (fun _ => false) none 0 0
  bel : Below w0.heap.size w0 w
theorem Px.WP.up {x : Rx} {B : Nat → Prop} {w0 : World} {k : Nat} {f : Nat → Bool} {a : Option Addr} {n cap : Nat} {w w' : World} (h : Px.WP x B w0 k f a n cap w) (hb : Below w.heap.size w w') : Px.WP x B w0 k f a n cap w' := ⟨h.one.up hb, h.is.up hb, h.nod.up hb, Bs.below_up h.bel hb⟩
theorem Px.WP.sz {x : Rx} {B : Nat → Prop} {w0 : World} {k : Nat} {f : Nat → Bool} {a : Option Addr} {n cap : Nat} {w : World} (h : Px.WP x B w0 k f a n cap w) : w0.heap.size + 2 ≤ w.heap.size := h.nod.lt
set_option maxRecDepth 100000 in
set_option maxHeartbeats 2000000 in
/-- the expression's size has to be small enough to be copied -/
theorem repeated_any (x : Rx) (v : Value) (c : Int) (B : Nat → Prop) (w : World) (hB : ∀ k, w.heap.size ≤ k → B k) (hx : Rx.IsB w B x v) (hs : x.size ≤ 100000) : Calls Try.prog 101 #[v, .int .i64 c] w (Px.XPost w B (Px.rept x c)) := by
  obtain ⟨k, f, a, n, cap, rfl⟩ := hx.form
  have A := Bs.below2 w (.cells #[.int .u8 k, .int .u64 (Bs.word f 0), .int .u64 (Bs.word f 1), .int .u64 (Bs.word f 2), .int .u64 (Bs.word f 3), .slice a n cap] 28) (.cells #[.int .u8 0, .int .u64 0, .int .u64 0, .int .u64 0, .int .u64 0, .slice none 0 0] 28)
  have N1 := (Rx.nod_new w k f a n cap).up (Bs.below1 _ (.cells #[.int .u8 0, .int .u64 0, .int .u64 0, .int .u64 0, .int .u64 0, .slice none 0 0] 28))
  have N2 := Rx.nod_zero (w.alloc (.cells #[.int .u8 k, .int .u64 (Bs.word f 0), .int .u64 (Bs.word f 1), .int .u64 (Bs.word f 2), .int .u64 (Bs.word f 3), .slice a n cap] 28))
  have eN : (w.alloc (.cells #[.int .u8 k, .int .u64 (Bs.word f 0), .int .u64 (Bs.word f 1), .int .u64 (Bs.word f 2), .int .u64 (Bs.word f 3), .slice a n cap] 28)).heap.size = w.heap.size + 1 := by simp [go_sem]
  rw [eN] at N2
  have X := hx.lt.mono (B' := fun j => B j ∧ j ≠ w.heap.size + 1) (fun j hj => ⟨hj.1, by omega⟩)
  have HX := Lib.hid (X.up A)
  clear eN hx X
  obtain ⟨c0, c1, c2, c3, c4, c5⟩ := N1.cell
  simp only [Nat.zero_add] at c0 c1 c2 c3 c4 c5
  unfold Rx.hdr at HX ⊢
  go_enter Try.func101, Try.ntmps101
  by_cases h1 : c = 42
  · have e1 : (c == 42) = true := by rw [h1]; rfl
    have HR := Lib.hid (show Px.rept x c = Rx.star x by rw [h1]; rfl)
    clear h1
    go_wp2_with fail
    generalize (w.alloc (.cells #[.int .u8 k, .int .u64 (Bs.word f 0), .int .u64 (Bs.word f 1), .int .u64 (Bs.word f 2), .int .u64 (Bs.word f 3), .slice a n cap] 28)).alloc (.cells #[.int .u8 0, .int .u64 0, .int .u64 0, .int .u64 0, .int .u64 0, .slice none 0 0] 28) = W at *
    have hW : w.heap.size + 2 ≤ W.heap.size := N2.lt
    refine (star_any x _ (fun j => B j ∧ j ≠ w.heap.size + 1) W (fun j hj => ⟨hB _ (by omega), by omega⟩) HX.out).mono ?_
    rintro e w1 ⟨v1, rfl, hy, hb⟩
    replace N2 := N2.up hb
    replace A := Bs.below_up A hb
    clear hb c0 c1 c2 c3 c4 c5 N1 HX
    obtain ⟨k2, f2, a2, n2, cap2, rfl⟩ := hy.form
    have HY := Lib.hid hy
    clear hy
    obtain ⟨⟨d0, d1, d2, d3, d4, d5⟩, y⟩ := N2
    simp only [Nat.zero_add] at d0 d1 d2 d3 d4 d5
    have y0 := y 0 (by decide); have y1 := y 1 (by decide); have y2 := y 2 (by decide); have y3 := y 3 (by decide); have y4 := y 4 (by decide); have y5 := y 5 (by decide)
    clear y
    unfold Rx.hdr
    go_wp2_with fail
    refine bodyPost_ret (v := Rx.hdr k2 f2 a2 n2 cap2) (by simp [results, Try.results101, go_sem, Rx.hdr, d0, d1, d2, d3, d4, d5]) rfl ⟨_, rfl, ?_, ?_⟩
    · rw [HR.out]; exact (HY.out.wr (b := w.heap.size + 1) (by omega) k2 f2 a2 n2 cap2).mono (fun j hj => hj.1)
    · exact Rx.wr_below A (by omega) k2 f2 a2 n2 cap2
  have e1 : (c == 42) = false := beq_eq_false_iff_ne.2 h1
  by_cases h2 : c = 43
  · have e2 : (c == 43) = true := by rw [h2]; rfl
    have HR := Lib.hid (show Px.rept x c = Rx.plus x by rw [h2]; rfl)
    clear h1 h2
    go_upto_region 5 with fail
    generalize (w.alloc (.cells #[.int .u8 k, .int .u64 (Bs.word f 0), .int .u64 (Bs.word f 1), .int .u64 (Bs.word f 2), .int .u64 (Bs.word f 3), .slice a n cap] 28)).alloc (.cells #[.int .u8 0, .int .u64 0, .int .u64 0, .int .u64 0, .int .u64 0, .slice none 0 0] 28) = W at *
    have WP : Px.WP x (fun j => B j ∧ j ≠ w.heap.size + 1) w k f a n cap W := ⟨N1, HX.out, N2, A⟩
    clear c0 c1 c2 c3 c4 c5 N1 N2 A HX
    refine Rg.regionT (by kernel_rfl) (by kernel_rfl) (by kernel_rfl) (by decide) (Rg.rel (Px.relP x (Rx.hdr k f a n cap) (fun j => B j ∧ j ≠ w.heap.size + 1))) (Px.WP x (fun j => B j ∧ j ≠ w.heap.size + 1) w k f a n cap) (fun w w' => Below w.heap.size w w') (fun i v w w' h _ hb => Rg.rel_up (Px.relP_up _ _ _) h hb) (WP.up (Below.refl _ _).drew) ⟨?_, ?_, ?_, ?_, ?_, ?_, trivial⟩ ?_
    · intro f u hw hd
      have HW := Lib.hid hw
      clear hw hd
      simp only [Rg.step, Rg.all, Act.put, List.setIfInBounds_toArray, List.set_cons_zero, List.set_cons_succ]
      have c0 := HW.out.one.cell.c0; have c1 := HW.out.one.cell.c1; have c2 := HW.out.one.cell.c2; have c3 := HW.out.one.cell.c3; have c4 := HW.out.one.cell.c4; have c5 := HW.out.one.cell.c5
      simp only [Nat.zero_add] at c0 c1 c2 c3 c4 c5
      go_simp
      exact ⟨rfl, HW.out, Below.refl _ _⟩
    · intro f u hw hd
      have HW := Lib.hid hw
      clear hw hd
      simp only [Rg.step, Rg.all, Act.put, List.setIfInBounds_toArray, List.set_cons_zero, List.set_cons_succ]
      have c0 := HW.out.one.cell.c0; have c1 := HW.out.one.cell.c1; have c2 := HW.out.one.cell.c2; have c3 := HW.out.one.cell.c3; have c4 := HW.out.one.cell.c4; have c5 := HW.out.one.cell.c5
      simp only [Nat.zero_add] at c0 c1 c2 c3 c4 c5
      go_simp
      exact ⟨rfl, HW.out, Below.refl _ _⟩
    · intro f' u hw hd
      have r1 : f' 1 = Rx.hdr k f a n cap := hd _ (List.mem_cons_self ..)
      have hsz := hw.sz
      have HW := Lib.hid hw
      clear hw hd
      simp only [Rg.step, Rg.all, Act.put, List.setIfInBounds_toArray, List.set_cons_zero, List.set_cons_succ]
      go_simp
      refine (copied_any x.size x (Nat.le_refl _) hs _ u HW.out.is.is).mono ?_
      rintro e u1 ⟨v, rfl, hy, hb⟩
      exact ⟨_, rfl, hy.mono (fun j hj => ⟨hB _ (by omega), by omega⟩), HW.out.up hb, hb⟩
    · intro f' u hw hd
      have r2 : Rx.IsB u (fun j => B j ∧ j ≠ w.heap.size + 1) x (f' 2) := hd _ (List.mem_cons_self ..)
      have R2 := Lib.hid r2
      have hsz := hw.sz
      clear r2
      have HW := Lib.hid hw
      clear hw hd
      simp only [Rg.step, Rg.all, Act.put, List.setIfInBounds_toArray, List.set_cons_zero, List.set_cons_succ]
      go_simp
      refine (star_any x _ (fun j => B j ∧ j ≠ w.heap.size + 1) u (fun j hj => ⟨hB _ (by omega), by omega⟩) R2.out).mono ?_
      rintro e u1 ⟨v, rfl, hy, hb⟩
      exact ⟨_, rfl, hy, HW.out.up hb, hb⟩
    · intro f' u hw hd
      have r0 : f' 0 = Rx.hdr k f a n cap := hd _ (List.mem_cons_self ..)
      have r3 : Rx.IsB u (fun j => B j ∧ j ≠ w.heap.size + 1) (Rx.star x) (f' 3) := hd _ (List.mem_cons_of_mem _ (List.mem_cons_self ..))
      have q := r3.form
      obtain ⟨k3, f3, a3, n3, c3, e3⟩ := q
      rw [e3] at r3
      have R3 := Lib.hid r3
      have hsz := hw.sz
      clear r3
      unfold Rx.hdr at e3 r0
      have HW := Lib.hid hw
      clear hw hd
      simp only [Rg.step, Rg.all, Act.put, List.setIfInBounds_toArray, List.set_cons_zero, List.set_cons_succ]
      go_simp
      exact ⟨⟨_, rfl, Rx.built (B := (fun j => B j ∧ j ≠ w.heap.size + 1)) (xs := [x, Rx.star x]) (cs := Rx.six k f a n cap ++ (Rx.six k3 f3 a3 n3 c3 ++ ([]))) ⟨k, f, a, n, cap, _, rfl, HW.out.is, ⟨k3, f3, a3, n3, c3, _, rfl, R3.out, rfl⟩⟩ ⟨hB _ (by omega), by omega⟩ rfl⟩, HW.out.up (Bs.below1 u _), Bs.below1 u _⟩
    · intro f' u hw hd
      obtain ⟨g5, e5, h5⟩ : ∃ g, f' 4 = .slice (some ⟨g, 0, none⟩) 2 2 ∧ Rx.InBL u (fun j => B j ∧ j ≠ w.heap.size + 1) [x, Rx.star x] (some ⟨g, 0, none⟩) 0 := hd _ (List.mem_cons_self ..)
      have H5 := Lib.hid h5
      clear h5
      have HW := Lib.hid hw
      clear hw hd
      simp only [Rg.step, Rg.all, Act.put, List.setIfInBounds_toArray, List.set_cons_zero, List.set_cons_succ]
      go_simp
      refine (joined_any 2 (by decide) [x, Rx.star x] _ 2 _ u H5.out).mono ?_
      rintro e u1 ⟨v, rfl, hy, hb⟩
      exact ⟨_, rfl, hy, HW.out.up hb, hb⟩
    · intro f' u hw hR o ho
      have r5 : Rx.IsB u (fun j => B j ∧ j ≠ w.heap.size + 1) (Rx.plus x) (f' 5) := hR 5 (by decide)
      simp at ho
      subst ho
      simp only [Rg.step, Rg.all, Act.put, List.setIfInBounds_toArray, List.set_cons_zero, List.set_cons_succ]
      have q := r5.form
      obtain ⟨k9, f9, a9, n9, c9, e9⟩ := q
      rw [e9] at r5
      have R := Lib.hid r5
      have A := Lib.hid hw.bel
      have d0 := hw.nod.cell.c0; have d1 := hw.nod.cell.c1; have d2 := hw.nod.cell.c2; have d3 := hw.nod.cell.c3; have d4 := hw.nod.cell.c4; have d5 := hw.nod.cell.c5
      have y := hw.nod.frz
      simp only [Nat.zero_add] at d0 d1 d2 d3 d4 d5
      have y0 := y 0 (by decide); have y1 := y 1 (by decide); have y2 := y 2 (by decide); have y3 := y 3 (by decide); have y4 := y 4 (by decide); have y5 := y 5 (by decide)
      clear y r5 hw hR
      unfold Rx.hdr at e9
      go_simp
      go_wp2_with fail
      refine bodyPost_ret (v := Rx.hdr k9 f9 a9 n9 c9) (by simp [results, Try.results101, go_sem, Rx.hdr, d0, d1, d2, d3, d4, d5]) rfl ⟨_, rfl, ?_, ?_⟩
      · rw [HR.out]; exact (R.out.wr (b := w.heap.size + 1) (by omega) k9 f9 a9 n9 c9).mono (fun j hj => hj.1)
      · exact Rx.wr_below A.out (by omega) k9 f9 a9 n9 c9
  have e2 : (c == 43) = false := beq_eq_false_iff_ne.2 h2
  have HR := Lib.hid (show Px.rept x c = Rx.opt x by unfold Px.rept; rw [if_neg h1, if_neg h2])
  clear h1 h2
  have hsz : ((w.alloc (.cells #[.int .u8 k, .int .u64 (Bs.word f 0), .int .u64 (Bs.word f 1), .int .u64 (Bs.word f 2), .int .u64 (Bs.word f 3), .slice a n cap] 28)).alloc (.cells #[.int .u8 0, .int .u64 0, .int .u64 0, .int .u64 0, .int .u64 0, .slice none 0 0] 28)).heap.size = w.heap.size + 2 := by simp [go_sem]
  go_wp2_with fail
  generalize (w.alloc (.cells #[.int .u8 k, .int .u64 (Bs.word f 0), .int .u64 (Bs.word f 1), .int .u64 (Bs.word f 2), .int .u64 (Bs.word f 3), .slice a n cap] 28)).alloc (.cells #[.int .u8 0, .int .u64 0, .int .u64 0, .int .u64 0, .int .u64 0, .slice none 0 0] 28) = W at *
  have HI := Lib.hid (Rx.built (C := #[.int .u8 k, .int .u64 (Bs.word f 0), .int .u64 (Bs.word f 1), .int .u64 (Bs.word f 2), .int .u64 (Bs.word f 3), .slice a n cap, .int .u8 0, .int .u64 0, .int .u64 0, .int .u64 0, .int .u64 0, .slice none 0 0]) (B := (fun j => B j ∧ j ≠ w.heap.size + 1)) (xs := [x, Rx.nil]) (cs := Rx.six k f a n cap ++ (Rx.six 0 (fun _ => false) none 0 0 ++ ([]))) ⟨k, f, a, n, cap, _, rfl, HX.out, ⟨0, _, none, 0, 0, _, rfl, Rx.isB_nil _ _, rfl⟩⟩ (by rw [hsz]; exact ⟨hB _ (by omega), by omega⟩) (by simp [Rx.six, Bs.word_none]))
  rw [hsz] at HI
  have hb := Bs.below1 W (.cells #[.int .u8 k, .int .u64 (Bs.word f 0), .int .u64 (Bs.word f 1), .int .u64 (Bs.word f 2), .int .u64 (Bs.word f 3), .slice a n cap, .int .u8 0, .int .u64 0, .int .u64 0, .int .u64 0, .int .u64 0, .slice none 0 0] 28)
  replace N2 := N2.up hb
  replace A := Bs.below_up A hb
  clear hb c0 c1 c2 c3 c4 c5 N1 HX
  refine (joined_any 3 (by decide) [x, Rx.nil] _ 2 _ _ HI.out).mono ?_
  rintro e w1 ⟨v1, rfl, hy, hb⟩
  replace N2 := N2.up hb
  replace A := Bs.below_up A hb
  clear hb HI
  obtain ⟨k2, f2, a2, n2, cap2, rfl⟩ := hy.form
  have HY := Lib.hid hy
  clear hy
  obtain ⟨⟨d0, d1, d2, d3, d4, d5⟩, y⟩ := N2
  simp only [Nat.zero_add] at d0 d1 d2 d3 d4 d5
  have y0 := y 0 (by decide); have y1 := y 1 (by decide); have y2 := y 2 (by decide); have y3 := y 3 (by decide); have y4 := y 4 (by decide); have y5 := y 5 (by decide)
  clear y
  unfold Rx.hdr
  go_wp2_with fail
  refine bodyPost_ret (v := Rx.hdr k2 f2 a2 n2 cap2) (by simp [results, Try.results101, go_sem, Rx.hdr, d0, d1, d2, d3, d4, d5]) rfl ⟨_, rfl, ?_, ?_⟩
  · rw [HR.out]; exact (HY.out.wr (b := w.heap.size + 1) (by omega) k2 f2 a2 n2 cap2).mono (fun j hj => hj.1)
  · exact Rx.wr_below A (by omega) k2 f2 a2 n2 cap2
end Go.Proofs.Ytigdelfoipcilaa
