/- What the document's but answers, walked. -/
import Derived.Test.YtigdelfoipcilaaRxJ
import Derived.Test.YtigdelfoipcilaaRyI
namespace Go.Proofs.Ytigdelfoipcilaa
set_option linter.unusedVariables false
set_option linter.unusedSimpArgs false
open Go.RowKit
theorem Rx.isB_sole {w : World} {B : Nat → Prop} {f : Nat → Bool} {v : Value} (h : Rx.Is w (Rx.one f) v) : Rx.IsB w B (Rx.one f) v := by
  obtain ⟨h1, a, cap, e, _⟩ := h
  exact ⟨h1, a, cap, e, trivial⟩
def Rx.relB (L : Nat → Bool) (base : Nat) : List (Value → World → Prop) := [
  fun v _ => v = Bs.val L,
  fun v w => Rx.IsB w (base ≤ ·) (Rx.one L) v,
  fun v _ => v = Bs.val (Rx.rng 194 223),
  fun v w => Rx.IsB w (base ≤ ·) (Rx.one (Rx.rng 194 223)) v,
  fun v w => Rx.IsB w (base ≤ ·) (Rx.one (Rx.rng 128 191)) v,
  fun v w => ∃ g, v = .slice (some ⟨g, 0, none⟩) 2 2 ∧ Rx.InBL w (base ≤ ·) [Rx.one (Rx.rng 194 223), Rx.one (Rx.rng 128 191)] (some ⟨g, 0, none⟩) 0,
  fun v w => Rx.IsB w (base ≤ ·) (.node 2 (fun _ => false) [Rx.one (Rx.rng 194 223), Rx.one (Rx.rng 128 191)]) v,
  fun v _ => v = Bs.val (Rx.rng 224 239),
  fun v w => Rx.IsB w (base ≤ ·) (Rx.one (Rx.rng 224 239)) v,
  fun v w => Rx.IsB w (base ≤ ·) (Rx.one (Rx.rng 128 191)) v,
  fun v w => Rx.IsB w (base ≤ ·) (Rx.one (Rx.rng 128 191)) v,
  fun v w => ∃ g, v = .slice (some ⟨g, 0, none⟩) 3 3 ∧ Rx.InBL w (base ≤ ·) [Rx.one (Rx.rng 224 239), Rx.one (Rx.rng 128 191), Rx.one (Rx.rng 128 191)] (some ⟨g, 0, none⟩) 0,
  fun v w => Rx.IsB w (base ≤ ·) (.node 2 (fun _ => false) [Rx.one (Rx.rng 224 239), Rx.one (Rx.rng 128 191), Rx.one (Rx.rng 128 191)]) v,
  fun v _ => v = Bs.val (Rx.rng 240 244),
  fun v w => Rx.IsB w (base ≤ ·) (Rx.one (Rx.rng 240 244)) v,
  fun v w => Rx.IsB w (base ≤ ·) (Rx.one (Rx.rng 128 191)) v,
  fun v w => Rx.IsB w (base ≤ ·) (Rx.one (Rx.rng 128 191)) v,
  fun v w => Rx.IsB w (base ≤ ·) (Rx.one (Rx.rng 128 191)) v,
  fun v w => ∃ g, v = .slice (some ⟨g, 0, none⟩) 4 4 ∧ Rx.InBL w (base ≤ ·) [Rx.one (Rx.rng 240 244), Rx.one (Rx.rng 128 191), Rx.one (Rx.rng 128 191), Rx.one (Rx.rng 128 191)] (some ⟨g, 0, none⟩) 0,
  fun v w => Rx.IsB w (base ≤ ·) (.node 2 (fun _ => false) [Rx.one (Rx.rng 240 244), Rx.one (Rx.rng 128 191), Rx.one (Rx.rng 128 191), Rx.one (Rx.rng 128 191)]) v,
  fun v w => ∃ g, v = .slice (some ⟨g, 0, none⟩) 4 4 ∧ Rx.InBL w (base ≤ ·) [Rx.one L, (.node 2 (fun _ => false) [Rx.one (Rx.rng 194 223), Rx.one (Rx.rng 128 191)]), (.node 2 (fun _ => false) [Rx.one (Rx.rng 224 239), Rx.one (Rx.rng 128 191), Rx.one (Rx.rng 128 191)]), (.node 2 (fun _ => false) [Rx.one (Rx.rng 240 244), Rx.one (Rx.rng 128 191), Rx.one (Rx.rng 128 191), Rx.one (Rx.rng 128 191)])] (some ⟨g, 0, none⟩) 0,
  fun v w => Rx.IsB w (base ≤ ·) (.node 3 (fun _ => false) [Rx.one L, (.node 2 (fun _ => false) [Rx.one (Rx.rng 194 223), Rx.one (Rx.rng 128 191)]), (.node 2 (fun _ => false) [Rx.one (Rx.rng 224 239), Rx.one (Rx.rng 128 191), Rx.one (Rx.rng 128 191)]), (.node 2 (fun _ => false) [Rx.one (Rx.rng 240 244), Rx.one (Rx.rng 128 191), Rx.one (Rx.rng 128 191), Rx.one (Rx.rng 128 191)])]) v]
theorem Rx.relB_up (L : Nat → Bool) (base : Nat) : Rg.Ups (Rx.relB L base) := by
  refine ⟨?_, ?_, ?_, ?_, ?_, ?_, ?_, ?_, ?_, ?_, ?_, ?_, ?_, ?_, ?_, ?_, ?_, ?_, ?_, ?_, ?_, ?_, trivial⟩
  all_goals intro v w w' h hb
  all_goals (first | exact h | exact Rx.IsB.up hb h | (obtain ⟨g, e, h⟩ := h; exact ⟨g, e, h.up hb⟩))
/-- the low bytes up to c -/
def Rx.low (s : Nat → Bool) (c d : Nat) : Bool := decide (d < c) && !s d
theorem Rx.low_zero (s : Nat → Bool) : Rx.low s 0 = fun _ => false := by funext d; simp [Rx.low]
theorem Rx.low_yes {s : Nat → Bool} {c : Nat} (h : s c = false) : (fun d => Rx.low s c d || d == c) = Rx.low s (c + 1) := by
  funext d
  rw [Bool.eq_iff_iff]
  by_cases e : d = c
  · subst e; simp [Rx.low, h]
  · simp [Rx.low, e]; intro _; omega
theorem Rx.low_no {s : Nat → Bool} {c : Nat} (h : s c = true) : Rx.low s c = Rx.low s (c + 1) := by
  funext d
  rw [Bool.eq_iff_iff]
  by_cases e : d = c
  · subst e; simp [Rx.low, h]
  · simp [Rx.low]; intro _; omega
set_option maxRecDepth 100000 in
set_option maxHeartbeats 8000000 in
theorem refBut_any (s : Nat → Bool) (w : World) : Calls Try.prog 94 #[Bs.val s] w (Px.XPost w (w.heap.size ≤ ·) (Rx.but s)) := by
  have X := (Bs.box_new w s 25).up (Bs.below1 _ (.cells #[.int .u8 0, .int .u64 0, .int .u64 0, .int .u64 0, .int .u64 0, .slice none 0 0] 28))
  have N := Rx.nod_zero (w.alloc (.cells #[.int .u64 (Bs.word s 0), .int .u64 (Bs.word s 1), .int .u64 (Bs.word s 2), .int .u64 (Bs.word s 3)] 25))
  have eN : (w.alloc (.cells #[.int .u64 (Bs.word s 0), .int .u64 (Bs.word s 1), .int .u64 (Bs.word s 2), .int .u64 (Bs.word s 3)] 25)).heap.size = w.heap.size + 1 := by simp [go_sem]
  rw [eN] at N
  have A := Bs.below2 w (.cells #[.int .u64 (Bs.word s 0), .int .u64 (Bs.word s 1), .int .u64 (Bs.word s 2), .int .u64 (Bs.word s 3)] 25) (.cells #[.int .u8 0, .int .u64 0, .int .u64 0, .int .u64 0, .int .u64 0, .slice none 0 0] 28)
  have eM : ((w.alloc (.cells #[.int .u64 (Bs.word s 0), .int .u64 (Bs.word s 1), .int .u64 (Bs.word s 2), .int .u64 (Bs.word s 3)] 25)).alloc (.cells #[.int .u8 0, .int .u64 0, .int .u64 0, .int .u64 0, .int .u64 0, .slice none 0 0] 28)).heap.size = w.heap.size + 2 := by simp [go_sem]
  have Y := Bs.box_zero ((w.alloc (.cells #[.int .u64 (Bs.word s 0), .int .u64 (Bs.word s 1), .int .u64 (Bs.word s 2), .int .u64 (Bs.word s 3)] 25)).alloc (.cells #[.int .u8 0, .int .u64 0, .int .u64 0, .int .u64 0, .int .u64 0, .slice none 0 0] 28)) 25
  rw [eM] at Y
  have B3 := Bs.below1 ((w.alloc (.cells #[.int .u64 (Bs.word s 0), .int .u64 (Bs.word s 1), .int .u64 (Bs.word s 2), .int .u64 (Bs.word s 3)] 25)).alloc (.cells #[.int .u8 0, .int .u64 0, .int .u64 0, .int .u64 0, .int .u64 0, .slice none 0 0] 28)) (.cells #[.int .u64 0, .int .u64 0, .int .u64 0, .int .u64 0] 25)
  replace X := X.up B3
  replace N := N.up B3
  replace A := Bs.below_up A B3
  clear eN eM B3
  unfold Bs.val
  go_enter Try.func94, Try.ntmps94
  go_wp2_with fail
  generalize ((w.alloc (.cells #[.int .u64 (Bs.word s 0), .int .u64 (Bs.word s 1), .int .u64 (Bs.word s 2), .int .u64 (Bs.word s 3)] 25)).alloc (.cells #[.int .u8 0, .int .u64 0, .int .u64 0, .int .u64 0, .int .u64 0, .slice none 0 0] 28)).alloc (.cells #[.int .u64 0, .int .u64 0, .int .u64 0, .int .u64 0] 25) = W at *
  go_loopw [4] (fun i wr => ∃ c : Nat, c ≤ 128 ∧ i = .int .i64 c ∧ Bs.Box wr (w.heap.size + 2) (Rx.low s c) ∧ Bs.Box wr w.heap.size s ∧ Rx.Nod wr (w.heap.size + 1) 0 (fun _ => false) none 0 0 ∧ Below w.heap.size w wr) (fun i _ => 128 - (intOf i).toNat)
  case atStart => exact ⟨0, by omega, rfl, by rw [Rx.low_zero]; exact Y, X, N, A⟩
  case round =>
    clear Y X N A
    obtain ⟨c, hc, rfl, Y, X, N, A⟩ := hrel
    by_cases hlt : c < 128
    · have e1 : decide ((c : Int) < 128) = true := decide_eq_true (by omega)
      have w8 : IntKind.u8.wrap (c : Int) = c := by rw [IntKind.wrap_u8']; omega
      have x0 := X.cell 0 (by decide); have x1 := X.cell 1 (by decide); have x2 := X.cell 2 (by decide); have x3 := X.cell 3 (by decide)
      have HH := Lib.hid (refHas_any s c (by omega) wr)
      unfold Bs.val at HH
      go_wp2_with fail
      refine HH.out.mono ?_
      rintro e w1 ⟨rfl, hb⟩
      replace Y := Y.up hb
      replace X := X.up hb
      replace N := N.up hb
      replace A := Bs.below_up A hb
      clear hb HH x0 x1 x2 x3
      cases hs : s c
      · have HL := Lib.hid (Rx.low_yes hs)
        have P := Lib.hid (putB_any (Rx.low s c) c (by omega) w1)
        rw [HL.out] at P
        unfold Bs.val at P
        have b0 := Y.cell 0 (by decide); have b1 := Y.cell 1 (by decide); have b2 := Y.cell 2 (by decide); have b3 := Y.cell 3 (by decide)
        go_wp2_with fail
        refine P.out.mono ?_
        rintro e w2 ⟨rfl, hb⟩
        replace Y := Y.up hb
        replace X := X.up hb
        replace N := N.up hb
        replace A := Bs.below_up A hb
        clear hb P
        replace b0 := Y.cell 0 (by decide); replace b1 := Y.cell 1 (by decide); replace b2 := Y.cell 2 (by decide); replace b3 := Y.cell 3 (by decide)
        have g0 := Y.frz 0 (by decide); have g1 := Y.frz 1 (by decide); have g2 := Y.frz 2 (by decide); have g3 := Y.frz 3 (by decide)
        go_wp2_with fail
        go_roundw
        case rel => exact ⟨c + 1, by omega, by go_num, Y.write _, X.far4 (by omega) _ _ _ _, N.grown (Rx.grown_set (Rx.grown_set (Rx.grown_set (Rx.grown_set (Rx.grown_of (w.heap.size + 2) (Below.refl _ _)) _ _) _ _) _ _) _ _) (by omega), Bs.set4 A (by omega) _ _ _ _⟩
        case measure => simp [intOf]; omega
      · have HL := Lib.hid (Rx.low_no hs)
        go_wp2_with fail
        go_roundw
        case rel => exact ⟨c + 1, by omega, by go_num, by rw [← HL.out]; exact Y, X, N, A⟩
        case measure => simp [intOf]; omega
    · have e1 : decide ((c : Int) < 128) = false := decide_eq_false (by omega)
      have ec : c = 128 := by omega
      subst ec
      go_wp2_with fail
      refine (refSet_any 128 191 (by decide) (by decide) wr).mono ?_
      rintro e w1 ⟨rfl, hb⟩
      replace Y := Y.up hb
      replace N := N.up hb
      replace A := Bs.below_up A hb
      clear hb X
      go_wp2_with fail
      refine (refOne_any _ w1).mono ?_
      rintro e u1 ⟨v12, rfl, hx0, hb⟩
      replace Y := Y.up hb
      replace N := N.up hb
      replace A := Bs.below_up A hb
      clear hb
      have hx : Rx.IsB u1 (w.heap.size + 2 ≤ ·) (Rx.one (Rx.rng 128 191)) v12 := Rx.isB_sole hx0
      clear hx0
      obtain ⟨k, fk, a, n, cap, rfl⟩ := hx.form
      have HLW := Lib.hid (show Rx.but s = .node 3 (fun _ => false) [Rx.one (Rx.low s 128), (.node 2 (fun _ => false) [Rx.one (Rx.rng 194 223), Rx.one (Rx.rng 128 191)]), (.node 2 (fun _ => false) [Rx.one (Rx.rng 224 239), Rx.one (Rx.rng 128 191), Rx.one (Rx.rng 128 191)]), (.node 2 (fun _ => false) [Rx.one (Rx.rng 240 244), Rx.one (Rx.rng 128 191), Rx.one (Rx.rng 128 191), Rx.one (Rx.rng 128 191)])] from rfl)
      generalize Rx.low s 128 = L at *
      have B9 := Bs.below1 u1 (.cells #[.int .u8 k, .int .u64 (Bs.word fk 0), .int .u64 (Bs.word fk 1), .int .u64 (Bs.word fk 2), .int .u64 (Bs.word fk 3), .slice a n cap] 28)
      have W3 : Px.W3 L w (w.heap.size + 2) u1.heap.size k fk a n cap _ := ⟨Y.up B9, Rx.nod_new u1 k fk a n cap, hx.up B9, N.up B9, Bs.below_up A B9⟩
      clear Y N A B9 hx
      unfold Rx.hdr
      go_upto_region 8 with fail
      generalize u1.alloc (.cells #[.int .u8 k, .int .u64 (Bs.word fk 0), .int .u64 (Bs.word fk 1), .int .u64 (Bs.word fk 2), .int .u64 (Bs.word fk 3), .slice a n cap] 28) = V1 at *
      generalize u1.heap.size = G at *
      refine Rg.regionT (by kernel_rfl) (by kernel_rfl) (by kernel_rfl) (by decide) (Rg.rel (Rx.relB L (w.heap.size + 2))) (Px.W3 L w (w.heap.size + 2) G k fk a n cap) (fun w w' => Below w.heap.size w w') (fun i v w w' h _ hb => Rg.rel_up (Rx.relB_up _ _) h hb) (W3.up (Below.refl _ _).drew) ⟨?_, ?_, ?_, ?_, ?_, ?_, ?_, ?_, ?_, ?_, ?_, ?_, ?_, ?_, ?_, ?_, ?_, ?_, ?_, ?_, ?_, ?_, trivial⟩ ?_
      · intro f u hw hd
        have c0 := hw.low.cell 0 (by decide); have c1 := hw.low.cell 1 (by decide); have c2 := hw.low.cell 2 (by decide); have c3 := hw.low.cell 3 (by decide)
        have HW := Lib.hid hw
        clear hw hd
        simp only [Rg.step, Rg.all, Act.put, List.setIfInBounds_toArray, List.set_cons_zero, List.set_cons_succ]
        go_simp
        first | exact ⟨rfl, HW.out, Below.refl _ _⟩ | exact ⟨HW.out, Below.refl _ _⟩
      · intro f u hw hd
        have e0 : f 0 = Bs.val (L) := hd _ (List.mem_cons_self ..)
        have HW := Lib.hid hw
        clear hw hd
        simp only [Rg.step, Rg.all, Act.put, List.setIfInBounds_toArray, List.set_cons_zero, List.set_cons_succ]
        go_simp
        refine (refOne_any (L) u).mono ?_
        rintro e u1 ⟨v, rfl, hx, hb⟩
        exact ⟨_, rfl, Rx.isB_sole hx, HW.out.up hb, hb⟩
      · intro f u hw hd
        have HW := Lib.hid hw
        clear hw hd
        simp only [Rg.step, Rg.all, Act.put, List.setIfInBounds_toArray, List.set_cons_zero, List.set_cons_succ]
        go_simp
        refine (refSet_any 194 223 (by decide) (by decide) u).mono ?_
        rintro e u1 ⟨rfl, hb⟩
        exact ⟨_, rfl, rfl, HW.out.up hb, hb⟩
      · intro f u hw hd
        have e0 : f 2 = Bs.val (Rx.rng 194 223) := hd _ (List.mem_cons_self ..)
        have HW := Lib.hid hw
        clear hw hd
        simp only [Rg.step, Rg.all, Act.put, List.setIfInBounds_toArray, List.set_cons_zero, List.set_cons_succ]
        go_simp
        refine (refOne_any (Rx.rng 194 223) u).mono ?_
        rintro e u1 ⟨v, rfl, hx, hb⟩
        exact ⟨_, rfl, Rx.isB_sole hx, HW.out.up hb, hb⟩
      · intro f u hw hd
        have HW := Lib.hid hw
        clear hw hd
        simp only [Rg.step, Rg.all, Act.put, List.setIfInBounds_toArray, List.set_cons_zero, List.set_cons_succ]
        have c0 := HW.out.nxt.cell.c0; have c1 := HW.out.nxt.cell.c1; have c2 := HW.out.nxt.cell.c2; have c3 := HW.out.nxt.cell.c3; have c4 := HW.out.nxt.cell.c4; have c5 := HW.out.nxt.cell.c5
        simp only [Nat.zero_add] at c0 c1 c2 c3 c4 c5
        go_simp
        exact ⟨HW.out.is, HW.out, Below.refl _ _⟩
      · intro f u hw hd
        have r3 : Rx.IsB u (w.heap.size + 2 ≤ ·) (Rx.one (Rx.rng 194 223)) (f 3) := hd _ (List.mem_cons_self ..)
        have r4 : Rx.IsB u (w.heap.size + 2 ≤ ·) (Rx.one (Rx.rng 128 191)) (f 4) := hd _ (List.mem_cons_of_mem _ (List.mem_cons_self ..))
        have q := r3.form
        obtain ⟨k3, f3, a3, n3, c3, e3⟩ := q
        rw [e3] at r3
        have R3 := Lib.hid r3
        clear r3
        unfold Rx.hdr at e3
        have q := r4.form
        obtain ⟨k4, f4, a4, n4, c4, e4⟩ := q
        rw [e4] at r4
        have R4 := Lib.hid r4
        clear r4
        unfold Rx.hdr at e4
        have hsz := hw.sz
        have HW := Lib.hid hw
        clear hw hd
        simp only [Rg.step, Rg.all, Act.put, List.setIfInBounds_toArray, List.set_cons_zero, List.set_cons_succ]
        go_simp
        exact ⟨⟨_, rfl, Rx.built (B := (w.heap.size + 2 ≤ ·)) (xs := [(Rx.one (Rx.rng 194 223)), (Rx.one (Rx.rng 128 191))]) (cs := Rx.six k3 f3 a3 n3 c3 ++ (Rx.six k4 f4 a4 n4 c4 ++ ([]))) ⟨k3, f3, a3, n3, c3, _, rfl, R3.out, ⟨k4, f4, a4, n4, c4, _, rfl, R4.out, rfl⟩⟩ hsz rfl⟩, HW.out.up (Bs.below1 u _), Bs.below1 u _⟩
      · intro f u hw hd
        obtain ⟨g5, e5, h5⟩ : ∃ g, f 5 = .slice (some ⟨g, 0, none⟩) 2 2 ∧ Rx.InBL u (w.heap.size + 2 ≤ ·) [Rx.one (Rx.rng 194 223), Rx.one (Rx.rng 128 191)] (some ⟨g, 0, none⟩) 0 := hd _ (List.mem_cons_self ..)
        have H5 := Lib.hid h5
        clear h5
        have HW := Lib.hid hw
        clear hw hd
        simp only [Rg.step, Rg.all, Act.put, List.setIfInBounds_toArray, List.set_cons_zero, List.set_cons_succ]
        go_simp
        refine (refSeveralB_any 2 (by decide) [Rx.one (Rx.rng 194 223), Rx.one (Rx.rng 128 191)] _ 2 _ u H5.out).mono ?_
        rintro e u1 ⟨v, rfl, hx, hb⟩
        exact ⟨_, rfl, hx, HW.out.up hb, hb⟩
      · intro f u hw hd
        have HW := Lib.hid hw
        clear hw hd
        simp only [Rg.step, Rg.all, Act.put, List.setIfInBounds_toArray, List.set_cons_zero, List.set_cons_succ]
        go_simp
        refine (refSet_any 224 239 (by decide) (by decide) u).mono ?_
        rintro e u1 ⟨rfl, hb⟩
        exact ⟨_, rfl, rfl, HW.out.up hb, hb⟩
      · intro f u hw hd
        have e0 : f 7 = Bs.val (Rx.rng 224 239) := hd _ (List.mem_cons_self ..)
        have HW := Lib.hid hw
        clear hw hd
        simp only [Rg.step, Rg.all, Act.put, List.setIfInBounds_toArray, List.set_cons_zero, List.set_cons_succ]
        go_simp
        refine (refOne_any (Rx.rng 224 239) u).mono ?_
        rintro e u1 ⟨v, rfl, hx, hb⟩
        exact ⟨_, rfl, Rx.isB_sole hx, HW.out.up hb, hb⟩
      · intro f u hw hd
        have HW := Lib.hid hw
        clear hw hd
        simp only [Rg.step, Rg.all, Act.put, List.setIfInBounds_toArray, List.set_cons_zero, List.set_cons_succ]
        have c0 := HW.out.nxt.cell.c0; have c1 := HW.out.nxt.cell.c1; have c2 := HW.out.nxt.cell.c2; have c3 := HW.out.nxt.cell.c3; have c4 := HW.out.nxt.cell.c4; have c5 := HW.out.nxt.cell.c5
        simp only [Nat.zero_add] at c0 c1 c2 c3 c4 c5
        go_simp
        exact ⟨HW.out.is, HW.out, Below.refl _ _⟩
      · intro f u hw hd
        have HW := Lib.hid hw
        clear hw hd
        simp only [Rg.step, Rg.all, Act.put, List.setIfInBounds_toArray, List.set_cons_zero, List.set_cons_succ]
        have c0 := HW.out.nxt.cell.c0; have c1 := HW.out.nxt.cell.c1; have c2 := HW.out.nxt.cell.c2; have c3 := HW.out.nxt.cell.c3; have c4 := HW.out.nxt.cell.c4; have c5 := HW.out.nxt.cell.c5
        simp only [Nat.zero_add] at c0 c1 c2 c3 c4 c5
        go_simp
        exact ⟨HW.out.is, HW.out, Below.refl _ _⟩
      · intro f u hw hd
        have r8 : Rx.IsB u (w.heap.size + 2 ≤ ·) (Rx.one (Rx.rng 224 239)) (f 8) := hd _ (List.mem_cons_self ..)
        have r9 : Rx.IsB u (w.heap.size + 2 ≤ ·) (Rx.one (Rx.rng 128 191)) (f 9) := hd _ (List.mem_cons_of_mem _ (List.mem_cons_self ..))
        have r10 : Rx.IsB u (w.heap.size + 2 ≤ ·) (Rx.one (Rx.rng 128 191)) (f 10) := hd _ (List.mem_cons_of_mem _ (List.mem_cons_of_mem _ (List.mem_cons_self ..)))
        have q := r8.form
        obtain ⟨k8, f8, a8, n8, c8, e8⟩ := q
        rw [e8] at r8
        have R8 := Lib.hid r8
        clear r8
        unfold Rx.hdr at e8
        have q := r9.form
        obtain ⟨k9, f9, a9, n9, c9, e9⟩ := q
        rw [e9] at r9
        have R9 := Lib.hid r9
        clear r9
        unfold Rx.hdr at e9
        have q := r10.form
        obtain ⟨k10, f10, a10, n10, c10, e10⟩ := q
        rw [e10] at r10
        have R10 := Lib.hid r10
        clear r10
        unfold Rx.hdr at e10
        have hsz := hw.sz
        have HW := Lib.hid hw
        clear hw hd
        simp only [Rg.step, Rg.all, Act.put, List.setIfInBounds_toArray, List.set_cons_zero, List.set_cons_succ]
        go_simp
        exact ⟨⟨_, rfl, Rx.built (B := (w.heap.size + 2 ≤ ·)) (xs := [(Rx.one (Rx.rng 224 239)), (Rx.one (Rx.rng 128 191)), (Rx.one (Rx.rng 128 191))]) (cs := Rx.six k8 f8 a8 n8 c8 ++ (Rx.six k9 f9 a9 n9 c9 ++ (Rx.six k10 f10 a10 n10 c10 ++ ([])))) ⟨k8, f8, a8, n8, c8, _, rfl, R8.out, ⟨k9, f9, a9, n9, c9, _, rfl, R9.out, ⟨k10, f10, a10, n10, c10, _, rfl, R10.out, rfl⟩⟩⟩ hsz rfl⟩, HW.out.up (Bs.below1 u _), Bs.below1 u _⟩
      · intro f u hw hd
        obtain ⟨g5, e5, h5⟩ : ∃ g, f 11 = .slice (some ⟨g, 0, none⟩) 3 3 ∧ Rx.InBL u (w.heap.size + 2 ≤ ·) [Rx.one (Rx.rng 224 239), Rx.one (Rx.rng 128 191), Rx.one (Rx.rng 128 191)] (some ⟨g, 0, none⟩) 0 := hd _ (List.mem_cons_self ..)
        have H5 := Lib.hid h5
        clear h5
        have HW := Lib.hid hw
        clear hw hd
        simp only [Rg.step, Rg.all, Act.put, List.setIfInBounds_toArray, List.set_cons_zero, List.set_cons_succ]
        go_simp
        refine (refSeveralB_any 2 (by decide) [Rx.one (Rx.rng 224 239), Rx.one (Rx.rng 128 191), Rx.one (Rx.rng 128 191)] _ 3 _ u H5.out).mono ?_
        rintro e u1 ⟨v, rfl, hx, hb⟩
        exact ⟨_, rfl, hx, HW.out.up hb, hb⟩
      · intro f u hw hd
        have HW := Lib.hid hw
        clear hw hd
        simp only [Rg.step, Rg.all, Act.put, List.setIfInBounds_toArray, List.set_cons_zero, List.set_cons_succ]
        go_simp
        refine (refSet_any 240 244 (by decide) (by decide) u).mono ?_
        rintro e u1 ⟨rfl, hb⟩
        exact ⟨_, rfl, rfl, HW.out.up hb, hb⟩
      · intro f u hw hd
        have e0 : f 13 = Bs.val (Rx.rng 240 244) := hd _ (List.mem_cons_self ..)
        have HW := Lib.hid hw
        clear hw hd
        simp only [Rg.step, Rg.all, Act.put, List.setIfInBounds_toArray, List.set_cons_zero, List.set_cons_succ]
        go_simp
        refine (refOne_any (Rx.rng 240 244) u).mono ?_
        rintro e u1 ⟨v, rfl, hx, hb⟩
        exact ⟨_, rfl, Rx.isB_sole hx, HW.out.up hb, hb⟩
      · intro f u hw hd
        have HW := Lib.hid hw
        clear hw hd
        simp only [Rg.step, Rg.all, Act.put, List.setIfInBounds_toArray, List.set_cons_zero, List.set_cons_succ]
        have c0 := HW.out.nxt.cell.c0; have c1 := HW.out.nxt.cell.c1; have c2 := HW.out.nxt.cell.c2; have c3 := HW.out.nxt.cell.c3; have c4 := HW.out.nxt.cell.c4; have c5 := HW.out.nxt.cell.c5
        simp only [Nat.zero_add] at c0 c1 c2 c3 c4 c5
        go_simp
        exact ⟨HW.out.is, HW.out, Below.refl _ _⟩
      · intro f u hw hd
        have HW := Lib.hid hw
        clear hw hd
        simp only [Rg.step, Rg.all, Act.put, List.setIfInBounds_toArray, List.set_cons_zero, List.set_cons_succ]
        have c0 := HW.out.nxt.cell.c0; have c1 := HW.out.nxt.cell.c1; have c2 := HW.out.nxt.cell.c2; have c3 := HW.out.nxt.cell.c3; have c4 := HW.out.nxt.cell.c4; have c5 := HW.out.nxt.cell.c5
        simp only [Nat.zero_add] at c0 c1 c2 c3 c4 c5
        go_simp
        exact ⟨HW.out.is, HW.out, Below.refl _ _⟩
      · intro f u hw hd
        have HW := Lib.hid hw
        clear hw hd
        simp only [Rg.step, Rg.all, Act.put, List.setIfInBounds_toArray, List.set_cons_zero, List.set_cons_succ]
        have c0 := HW.out.nxt.cell.c0; have c1 := HW.out.nxt.cell.c1; have c2 := HW.out.nxt.cell.c2; have c3 := HW.out.nxt.cell.c3; have c4 := HW.out.nxt.cell.c4; have c5 := HW.out.nxt.cell.c5
        simp only [Nat.zero_add] at c0 c1 c2 c3 c4 c5
        go_simp
        exact ⟨HW.out.is, HW.out, Below.refl _ _⟩
      · intro f u hw hd
        have r14 : Rx.IsB u (w.heap.size + 2 ≤ ·) (Rx.one (Rx.rng 240 244)) (f 14) := hd _ (List.mem_cons_self ..)
        have r15 : Rx.IsB u (w.heap.size + 2 ≤ ·) (Rx.one (Rx.rng 128 191)) (f 15) := hd _ (List.mem_cons_of_mem _ (List.mem_cons_self ..))
        have r16 : Rx.IsB u (w.heap.size + 2 ≤ ·) (Rx.one (Rx.rng 128 191)) (f 16) := hd _ (List.mem_cons_of_mem _ (List.mem_cons_of_mem _ (List.mem_cons_self ..)))
        have r17 : Rx.IsB u (w.heap.size + 2 ≤ ·) (Rx.one (Rx.rng 128 191)) (f 17) := hd _ (List.mem_cons_of_mem _ (List.mem_cons_of_mem _ (List.mem_cons_of_mem _ (List.mem_cons_self ..))))
        have q := r14.form
        obtain ⟨k14, f14, a14, n14, c14, e14⟩ := q
        rw [e14] at r14
        have R14 := Lib.hid r14
        clear r14
        unfold Rx.hdr at e14
        have q := r15.form
        obtain ⟨k15, f15, a15, n15, c15, e15⟩ := q
        rw [e15] at r15
        have R15 := Lib.hid r15
        clear r15
        unfold Rx.hdr at e15
        have q := r16.form
        obtain ⟨k16, f16, a16, n16, c16, e16⟩ := q
        rw [e16] at r16
        have R16 := Lib.hid r16
        clear r16
        unfold Rx.hdr at e16
        have q := r17.form
        obtain ⟨k17, f17, a17, n17, c17, e17⟩ := q
        rw [e17] at r17
        have R17 := Lib.hid r17
        clear r17
        unfold Rx.hdr at e17
        have hsz := hw.sz
        have HW := Lib.hid hw
        clear hw hd
        simp only [Rg.step, Rg.all, Act.put, List.setIfInBounds_toArray, List.set_cons_zero, List.set_cons_succ]
        go_simp
        exact ⟨⟨_, rfl, Rx.built (B := (w.heap.size + 2 ≤ ·)) (xs := [(Rx.one (Rx.rng 240 244)), (Rx.one (Rx.rng 128 191)), (Rx.one (Rx.rng 128 191)), (Rx.one (Rx.rng 128 191))]) (cs := Rx.six k14 f14 a14 n14 c14 ++ (Rx.six k15 f15 a15 n15 c15 ++ (Rx.six k16 f16 a16 n16 c16 ++ (Rx.six k17 f17 a17 n17 c17 ++ ([]))))) ⟨k14, f14, a14, n14, c14, _, rfl, R14.out, ⟨k15, f15, a15, n15, c15, _, rfl, R15.out, ⟨k16, f16, a16, n16, c16, _, rfl, R16.out, ⟨k17, f17, a17, n17, c17, _, rfl, R17.out, rfl⟩⟩⟩⟩ hsz rfl⟩, HW.out.up (Bs.below1 u _), Bs.below1 u _⟩
      · intro f u hw hd
        obtain ⟨g5, e5, h5⟩ : ∃ g, f 18 = .slice (some ⟨g, 0, none⟩) 4 4 ∧ Rx.InBL u (w.heap.size + 2 ≤ ·) [Rx.one (Rx.rng 240 244), Rx.one (Rx.rng 128 191), Rx.one (Rx.rng 128 191), Rx.one (Rx.rng 128 191)] (some ⟨g, 0, none⟩) 0 := hd _ (List.mem_cons_self ..)
        have H5 := Lib.hid h5
        clear h5
        have HW := Lib.hid hw
        clear hw hd
        simp only [Rg.step, Rg.all, Act.put, List.setIfInBounds_toArray, List.set_cons_zero, List.set_cons_succ]
        go_simp
        refine (refSeveralB_any 2 (by decide) [Rx.one (Rx.rng 240 244), Rx.one (Rx.rng 128 191), Rx.one (Rx.rng 128 191), Rx.one (Rx.rng 128 191)] _ 4 _ u H5.out).mono ?_
        rintro e u1 ⟨v, rfl, hx, hb⟩
        exact ⟨_, rfl, hx, HW.out.up hb, hb⟩
      · intro f u hw hd
        have r1 : Rx.IsB u (w.heap.size + 2 ≤ ·) (Rx.one L) (f 1) := hd _ (List.mem_cons_self ..)
        have r6 : Rx.IsB u (w.heap.size + 2 ≤ ·) (.node 2 (fun _ => false) [Rx.one (Rx.rng 194 223), Rx.one (Rx.rng 128 191)]) (f 6) := hd _ (List.mem_cons_of_mem _ (List.mem_cons_self ..))
        have r12 : Rx.IsB u (w.heap.size + 2 ≤ ·) (.node 2 (fun _ => false) [Rx.one (Rx.rng 224 239), Rx.one (Rx.rng 128 191), Rx.one (Rx.rng 128 191)]) (f 12) := hd _ (List.mem_cons_of_mem _ (List.mem_cons_of_mem _ (List.mem_cons_self ..)))
        have r19 : Rx.IsB u (w.heap.size + 2 ≤ ·) (.node 2 (fun _ => false) [Rx.one (Rx.rng 240 244), Rx.one (Rx.rng 128 191), Rx.one (Rx.rng 128 191), Rx.one (Rx.rng 128 191)]) (f 19) := hd _ (List.mem_cons_of_mem _ (List.mem_cons_of_mem _ (List.mem_cons_of_mem _ (List.mem_cons_self ..))))
        have q := r1.form
        obtain ⟨k1, f1, a1, n1, c1, e1⟩ := q
        rw [e1] at r1
        have R1 := Lib.hid r1
        clear r1
        unfold Rx.hdr at e1
        have q := r6.form
        obtain ⟨k6, f6, a6, n6, c6, e6⟩ := q
        rw [e6] at r6
        have R6 := Lib.hid r6
        clear r6
        unfold Rx.hdr at e6
        have q := r12.form
        obtain ⟨k12, f12, a12, n12, c12, e12⟩ := q
        rw [e12] at r12
        have R12 := Lib.hid r12
        clear r12
        unfold Rx.hdr at e12
        have q := r19.form
        obtain ⟨k19, f19, a19, n19, c19, e19⟩ := q
        rw [e19] at r19
        have R19 := Lib.hid r19
        clear r19
        unfold Rx.hdr at e19
        have hsz := hw.sz
        have HW := Lib.hid hw
        clear hw hd
        simp only [Rg.step, Rg.all, Act.put, List.setIfInBounds_toArray, List.set_cons_zero, List.set_cons_succ]
        go_simp
        exact ⟨⟨_, rfl, Rx.built (B := (w.heap.size + 2 ≤ ·)) (xs := [(Rx.one L), (.node 2 (fun _ => false) [Rx.one (Rx.rng 194 223), Rx.one (Rx.rng 128 191)]), (.node 2 (fun _ => false) [Rx.one (Rx.rng 224 239), Rx.one (Rx.rng 128 191), Rx.one (Rx.rng 128 191)]), (.node 2 (fun _ => false) [Rx.one (Rx.rng 240 244), Rx.one (Rx.rng 128 191), Rx.one (Rx.rng 128 191), Rx.one (Rx.rng 128 191)])]) (cs := Rx.six k1 f1 a1 n1 c1 ++ (Rx.six k6 f6 a6 n6 c6 ++ (Rx.six k12 f12 a12 n12 c12 ++ (Rx.six k19 f19 a19 n19 c19 ++ ([]))))) ⟨k1, f1, a1, n1, c1, _, rfl, R1.out, ⟨k6, f6, a6, n6, c6, _, rfl, R6.out, ⟨k12, f12, a12, n12, c12, _, rfl, R12.out, ⟨k19, f19, a19, n19, c19, _, rfl, R19.out, rfl⟩⟩⟩⟩ hsz rfl⟩, HW.out.up (Bs.below1 u _), Bs.below1 u _⟩
      · intro f u hw hd
        obtain ⟨g5, e5, h5⟩ : ∃ g, f 20 = .slice (some ⟨g, 0, none⟩) 4 4 ∧ Rx.InBL u (w.heap.size + 2 ≤ ·) [Rx.one L, (.node 2 (fun _ => false) [Rx.one (Rx.rng 194 223), Rx.one (Rx.rng 128 191)]), (.node 2 (fun _ => false) [Rx.one (Rx.rng 224 239), Rx.one (Rx.rng 128 191), Rx.one (Rx.rng 128 191)]), (.node 2 (fun _ => false) [Rx.one (Rx.rng 240 244), Rx.one (Rx.rng 128 191), Rx.one (Rx.rng 128 191), Rx.one (Rx.rng 128 191)])] (some ⟨g, 0, none⟩) 0 := hd _ (List.mem_cons_self ..)
        have H5 := Lib.hid h5
        clear h5
        have HW := Lib.hid hw
        clear hw hd
        simp only [Rg.step, Rg.all, Act.put, List.setIfInBounds_toArray, List.set_cons_zero, List.set_cons_succ]
        go_simp
        refine (refSeveralB_any 3 (by decide) [Rx.one L, (.node 2 (fun _ => false) [Rx.one (Rx.rng 194 223), Rx.one (Rx.rng 128 191)]), (.node 2 (fun _ => false) [Rx.one (Rx.rng 224 239), Rx.one (Rx.rng 128 191), Rx.one (Rx.rng 128 191)]), (.node 2 (fun _ => false) [Rx.one (Rx.rng 240 244), Rx.one (Rx.rng 128 191), Rx.one (Rx.rng 128 191), Rx.one (Rx.rng 128 191)])] _ 4 _ u H5.out).mono ?_
        rintro e u1 ⟨v, rfl, hx, hb⟩
        exact ⟨_, rfl, hx, HW.out.up hb, hb⟩
      · intro f u hw hR o ho
        have r21 : Rx.IsB u (w.heap.size + 2 ≤ ·) (.node 3 (fun _ => false) [Rx.one L, (.node 2 (fun _ => false) [Rx.one (Rx.rng 194 223), Rx.one (Rx.rng 128 191)]), (.node 2 (fun _ => false) [Rx.one (Rx.rng 224 239), Rx.one (Rx.rng 128 191), Rx.one (Rx.rng 128 191)]), (.node 2 (fun _ => false) [Rx.one (Rx.rng 240 244), Rx.one (Rx.rng 128 191), Rx.one (Rx.rng 128 191), Rx.one (Rx.rng 128 191)])]) (f 21) := hR 21 (by decide)
        simp at ho
        subst ho
        simp only [Rg.step, Rg.all, Act.put, List.setIfInBounds_toArray, List.set_cons_zero, List.set_cons_succ]
        have q := r21.form
        obtain ⟨k9, f9, a9, n9, c9, e9⟩ := q
        rw [e9] at r21
        have R := Lib.hid r21
        have A := Lib.hid hw.bel
        have d0 := hw.nod.cell.c0; have d1 := hw.nod.cell.c1; have d2 := hw.nod.cell.c2; have d3 := hw.nod.cell.c3; have d4 := hw.nod.cell.c4; have d5 := hw.nod.cell.c5
        have y := hw.nod.frz
        simp only [Nat.zero_add] at d0 d1 d2 d3 d4 d5
        have y0 := y 0 (by decide); have y1 := y 1 (by decide); have y2 := y 2 (by decide); have y3 := y 3 (by decide); have y4 := y 4 (by decide); have y5 := y 5 (by decide)
        clear y r21 hw hR
        unfold Rx.hdr at e9
        go_simp
        go_wp2_with fail
        refine bodyPost_ret (v := Rx.hdr k9 f9 a9 n9 c9) (by simp [results, Try.results94, go_sem, Rx.hdr, d0, d1, d2, d3, d4, d5]) rfl ⟨_, rfl, ?_, ?_⟩
        · have R2 := (R.out.wr (b := w.heap.size + 1) (by omega) k9 f9 a9 n9 c9).mono (B' := (w.heap.size ≤ ·)) (fun j hj => by omega)
          rw [HLW.out]
          exact R2
        · exact Rx.wr_below A.out (by omega) k9 f9 a9 n9 c9
end Go.Proofs.Ytigdelfoipcilaa
