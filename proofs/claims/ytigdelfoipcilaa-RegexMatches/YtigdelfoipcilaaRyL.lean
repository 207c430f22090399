/- The program's reader of expressions: what class answers, walked. The program's reader of expressions: what atom answers, walked. -/
import Derived.Test.YtigdelfoipcilaaRyI
import Derived.Test.YtigdelfoipcilaaRgE
namespace Go.Proofs.Ytigdelfoipcilaa
set_option linter.unusedVariables false
set_option linter.unusedSimpArgs false
open Go.RowKit
/-- an expression is read, or the text is given up -/
def Px.VPost (w : World) (r : Nat) (big : Bool) (o : Option (Rx × List Int)) (e : Ending) (w' : World) : Prop :=
  (match o with
  | some (x, t) => (∃ v, e = .returned v ∧ Rx.IsB w' (w.heap.size ≤ ·) x v) ∧ Px.St w' r t big
  | none => e = Px.up 20) ∧ w.grownBy w' (some r)
/-- the items that are left -/
def Px.rest (g : Nat → Bool) (u : List Int) : Option ((Nat → Bool) × List Int) := if u.head? = some 93 then some (g, u.drop 1) else Rx.items g u
theorem Px.items_rest (g : Nat → Bool) (u : List Int) : Rx.items g u = match Rx.item u with
    | none => none
    | some ((lo, hi), r) => Px.rest (fun c => g c || Rx.rng lo hi c) r := by
  rw [Rx.items_eq]; rfl
theorem Px.or_is (g f : Nat → Bool) : Bs.orL [g, f] = fun c => g c || f c := by
  funext c; simp [Bs.orL]
/-- what each operation answers where a set is put to another -/
def Px.relC (r : Nat) (g : Nat → Bool) (lo hi : Int) : List (Value → World → Prop) := [
  fun v _ => v = Bs.val g,
  fun v _ => v = .pointer (some ⟨r, 0, none⟩),
  fun v _ => v = Bs.val (Rx.rng lo hi),
  fun v w => ∃ b, v = .slice (some ⟨b, 0, none⟩) 2 2 ∧ b ≠ r ∧ Bs.Row w (some ⟨b, 0, none⟩) [g, Rx.rng lo hi],
  fun v _ => v = Bs.val (Bs.orL [g, Rx.rng lo hi])]
/-- what stands: the set's variable, the result's, and the reader, ahead of the item or behind it -/
structure Px.WC (w0 : World) (r : Nat) (big : Bool) (G : Nat) (g : Nat → Bool) (lo hi : Int) (u u' : List Int) (L : Nat → Bool) (w : World) : Prop where
  box : Bs.Box w G g
  nod : Rx.Nod w w0.heap.size 0 (fun _ => false) none 0 0
  gr : w0.grownBy w (some r)
  st : Px.St w r (if L 2 then u' else u) big
  ok : L 2 = true → Rx.item u = some ((lo, hi), u')
theorem Px.WC.up {w0 : World} {r : Nat} {big : Bool} {G : Nat} {g : Nat → Bool} {lo hi : Int} {u u' : List Int} {L : Nat → Bool} {w w' : World} (h : Px.WC w0 r big G g lo hi u u' L w) (hb : Below w.heap.size w w') : Px.WC w0 r big G g lo hi u u' L w' := ⟨h.box.up hb, h.nod.up hb, Px.grown_up h.gr hb, h.st.up hb, h.ok⟩
theorem Px.WC.on {w0 : World} {r : Nat} {big : Bool} {G : Nat} {g : Nat → Bool} {lo hi : Int} {u u' : List Int} {L : Nat → Bool} {w : World} (i : Nat) (hi2 : i ≠ 2) (h : Px.WC w0 r big G g lo hi u u' L w) : Px.WC w0 r big G g lo hi u u' (fun k => decide (k = i) || L k) w := ⟨h.box, h.nod, h.gr, by simpa [Ne.symm hi2] using h.st, by simpa [Ne.symm hi2] using h.ok⟩
theorem Px.row_grown {w w' : World} {r b : Nat} {fs : List (Nat → Bool)} (h : Bs.Row w (some ⟨b, 0, none⟩) fs) (hn : b ≠ r) (hg : w.grownBy w' (some r)) : Bs.Row w' (some ⟨b, 0, none⟩) fs := fun i hi => by
  obtain ⟨x, e, h⟩ := h i hi
  injection e with e
  subst e
  have hx : ∀ (y : Addr) (v : Value), y.block = b → w.cell? y = some v → w'.cell? y = some v := fun y v e hv => hg.cell hv (by rw [e]; simpa using hn)
  have e1 : ((⟨b, 0, none⟩ : Addr).add (i * 4)).block = b := Rx.add_block _ _
  exact ⟨_, rfl, ⟨hx _ _ e1 h.c0, hx _ _ e1 h.c1, hx _ _ e1 h.c2, hx _ _ e1 h.c3⟩⟩
theorem Px.relC_up {r : Nat} {g : Nat → Bool} {lo hi : Int} {i : Nat} {v : Value} {w w' : World} (h : Rg.rel (Px.relC r g lo hi) i v w) (hg : w.grownBy w' (some r)) : Rg.rel (Px.relC r g lo hi) i v w' := by
  match i, h with
  | 0, h => exact h
  | 1, h => exact h
  | 2, h => exact h
  | 3, ⟨b, e, hn, h⟩ => exact ⟨b, e, hn, Px.row_grown h hn hg⟩
  | 4, h => exact h
  | _ + 5, _ => trivial
theorem Px.St.wr {w : World} {r : Nat} {t : List Int} {big : Bool} (h : Px.St w r t big) {b : Nat} (hd : b ≠ r) (k : Nat) (f : Nat → Bool) (a : Option Addr) (n cap : Nat) : Px.St (Rx.wr w b k f a n cap) r t big := (((((h.far hd 0 _).far hd 1 _).far hd 2 _).far hd 3 _).far hd 4 _).far hd 5 _
theorem Px.rest_len {g : Nat → Bool} {u : List Int} {lo hi : Int} {u' : List Int} (h : Rx.item u = some ((lo, hi), u')) : u'.length < u.length := Rx.item_len h
set_option maxRecDepth 100000 in
set_option maxHeartbeats 2000000 in
theorem class_any (r : Nat) (t : List Int) (big : Bool) (w : World) (h : Px.St w r t big) : Calls Try.prog 107 #[.pointer (some ⟨r, 0, none⟩)] w (Px.VPost w r big (Rx.cls t)) := by
  have hr := h.lt
  have nr : w.heap.size ≠ r := by omega
  have N := Rx.nod_zero w
  have A := Bs.below1 w (.cells #[.int .u8 0, .int .u64 0, .int .u64 0, .int .u64 0, .int .u64 0, .slice none 0 0] 28)
  have G0 := Rx.grown_of r A
  replace h := h.up A
  clear A
  -- the sign ^ is passed, or isn't there
  obtain ⟨but, t1, hbut, ht1, hcls⟩ : ∃ (but : Bool) (t1 : List Int), but = decide (t.head? = some 94) ∧ t1 = Px.passed 94 t ∧ Rx.cls t = (Rx.items (fun _ => false) t1).map fun p => (if but then Rx.but (fun c => p.1 c || Rx.rng 10 10 c) else Rx.one p.1, p.2) := by
    refine ⟨_, _, rfl, rfl, ?_⟩
    unfold Rx.cls Px.passed
    by_cases e : t.head? = some 94
    · simp [e]
    · simp [e]
  have HC := Lib.hid hcls
  have P := pass_any r t big 94 (by decide) (w.alloc (.cells #[.int .u8 0, .int .u64 0, .int .u64 0, .int .u64 0, .int .u64 0, .slice none 0 0] 28)) h
  unfold Px.PassPost at P
  rw [show ((94 : Nat) : Int) = 94 from rfl, ← hbut, ← ht1] at P
  clear hbut ht1 hcls h
  go_enter Try.func107, Try.ntmps107
  go_wp2_with fail
  generalize w.alloc (.cells #[.int .u8 0, .int .u64 0, .int .u64 0, .int .u64 0, .int .u64 0, .slice none 0 0] 28) = W at *
  refine P.mono ?_
  rintro e w1 ⟨rfl, h, g1⟩
  replace N := N.grown g1 nr
  replace G0 := G0.trans g1
  clear P g1
  have HI := Lib.hid (Px.items_rest (fun _ => false) t1)
  go_wp2_with fail
  refine (item_any r t1 big w1 h).mono ?_
  intro e w2 hP
  clear h
  generalize Rx.item t1 = o at *
  rcases o with _ | ⟨⟨lo, hi⟩, u0⟩
  · obtain ⟨rfl, g⟩ := hP
    exact ⟨rfl, by rw [HC.out, HI.out]; exact rfl, G0.trans g⟩
  obtain ⟨⟨rfl, h⟩, g⟩ := hP
  replace N := N.grown g nr
  replace G0 := G0.trans g
  clear g
  have HI2 := Lib.hid (show Rx.items (fun _ => false) t1 = Px.rest (Rx.rng lo hi) u0 by
    rw [HI.out]; simp)
  clear HI
  have A := Bs.below1 w2 (.cells #[.int .u64 (Bs.word (Rx.rng lo hi) 0), .int .u64 (Bs.word (Rx.rng lo hi) 1), .int .u64 (Bs.word (Rx.rng lo hi) 2), .int .u64 (Bs.word (Rx.rng lo hi) 3)] 25)
  have X := Bs.box_new w2 (Rx.rng lo hi) 25
  have hG : w.heap.size < w2.heap.size := N.lt
  have hGr : w2.heap.size ≠ r := by have := h.lt; omega
  replace N := N.up A
  replace G0 := Px.grown_up G0 A
  replace h := h.up A
  clear A
  unfold Bs.val
  go_wp2_with fail
  generalize w2.alloc (.cells #[.int .u64 (Bs.word (Rx.rng lo hi) 0), .int .u64 (Bs.word (Rx.rng lo hi) 1), .int .u64 (Bs.word (Rx.rng lo hi) 2), .int .u64 (Bs.word (Rx.rng lo hi) 3)] 25) = V at *
  generalize w2.heap.size = G at *
  go_loopg [] u0.length (fun gg wr => ∃ (g : Nat → Bool) (u : List Int), gg = u.length ∧ Rx.items (fun _ => false) t1 = Px.rest g u ∧ Bs.Box wr G g ∧ Rx.Nod wr w.heap.size 0 (fun _ => false) none 0 0 ∧ w.grownBy wr (some r) ∧ Px.St wr r u big)
  case atStart => exact ⟨_, u0, rfl, HI2.out, X, N, G0, h⟩
  case round =>
    clear N G0 h X HI2
    obtain ⟨g, u, hgu, hI, X, N, G0, h⟩ := hrel
    have HI2 := Lib.hid hI
    clear hI
    by_cases hd : u.head? = some (93 : Int)
    · obtain ⟨u1, rfl⟩ := Px.head_is hd
      have HI3 := Lib.hid (show Rx.items (fun _ => false) t1 = some (g, u1) by rw [HI2.out]; simp [Px.rest])
      have P := Lib.hid (pass_yes r u1 big 93 (by decide) wr h)
      clear h hd HI2
      go_wp2_with fail
      refine P.out.mono ?_
      rintro e w3 ⟨rfl, h, g3⟩
      replace N := N.grown g3 nr
      replace X := Px.box_grown g3 X hGr
      replace G0 := G0.trans g3
      clear g3 P
      have x0 := X.cell 0 (by decide); have x1 := X.cell 1 (by decide); have x2 := X.cell 2 (by decide); have x3 := X.cell 3 (by decide)
      cases but
      · have HC2 := Lib.hid (show Rx.cls t = some (Rx.one g, u1) by rw [HC.out, HI3.out]; rfl)
        clear HC HI3
        go_wp2_with fail
        refine (pone_any g (w.heap.size + 1 ≤ ·) w3).mono ?_
        rintro e w4 ⟨v4, rfl, hy, hb⟩
        replace N := N.up hb
        replace G0 := Px.grown_up G0 hb
        replace h := h.up hb
        clear hb x0 x1 x2 x3 X
        obtain ⟨k2, f2, a2, n2, cap2, rfl⟩ := hy.form
        have HY := Lib.hid hy
        have H := Lib.hid h
        clear hy h
        obtain ⟨⟨d0, d1, d2, d3, d4, d5⟩, y⟩ := N
        simp only [Nat.zero_add] at d0 d1 d2 d3 d4 d5
        have y0 := y 0 (by decide); have y1 := y 1 (by decide); have y2 := y 2 (by decide); have y3 := y 3 (by decide); have y4 := y 4 (by decide); have y5 := y 5 (by decide)
        clear y
        unfold Rx.hdr
        go_wp2_with fail
        refine bodyPost_ret (v := Rx.hdr k2 f2 a2 n2 cap2) (by simp [results, Try.results107, go_sem, Rx.hdr, d0, d1, d2, d3, d4, d5]) rfl ⟨?_, ?_⟩
        · rw [HC2.out]
          exact ⟨⟨_, rfl, (HY.out.wr (b := w.heap.size) (by omega) k2 f2 a2 n2 cap2).mono (fun j hj => by omega)⟩, H.out.wr nr k2 f2 a2 n2 cap2⟩
        · exact Rx.wr_far G0 (Nat.le_refl _) k2 f2 a2 n2 cap2
      · have HC2 := Lib.hid (show Rx.cls t = some (Rx.but (fun c => g c || Rx.rng 10 10 c), u1) by rw [HC.out, HI3.out]; rfl)
        clear HC HI3
        go_wp2_with fail
        have hsz : w.heap.size + 1 ≤ w3.heap.size := N.lt
        refine (signBut_any g w3).mono ?_
        rintro e w4 ⟨v4, rfl, hy, hb⟩
        replace N := N.up hb
        replace G0 := Px.grown_up G0 hb
        replace h := h.up hb
        clear hb x0 x1 x2 x3 X
        replace hy := hy.mono (B' := (w.heap.size + 1 ≤ ·)) (fun j hj => by omega)
        obtain ⟨k2, f2, a2, n2, cap2, rfl⟩ := hy.form
        have HY := Lib.hid hy
        have H := Lib.hid h
        clear hy h
        obtain ⟨⟨d0, d1, d2, d3, d4, d5⟩, y⟩ := N
        simp only [Nat.zero_add] at d0 d1 d2 d3 d4 d5
        have y0 := y 0 (by decide); have y1 := y 1 (by decide); have y2 := y 2 (by decide); have y3 := y 3 (by decide); have y4 := y 4 (by decide); have y5 := y 5 (by decide)
        clear y
        unfold Rx.hdr
        go_wp2_with fail
        refine bodyPost_ret (v := Rx.hdr k2 f2 a2 n2 cap2) (by simp [results, Try.results107, go_sem, Rx.hdr, d0, d1, d2, d3, d4, d5]) rfl ⟨?_, ?_⟩
        · rw [HC2.out]
          exact ⟨⟨_, rfl, (HY.out.wr (b := w.heap.size) (by omega) k2 f2 a2 n2 cap2).mono (fun j hj => by omega)⟩, H.out.wr nr k2 f2 a2 n2 cap2⟩
        · exact Rx.wr_far G0 (Nat.le_refl _) k2 f2 a2 n2 cap2
    have P := Lib.hid (pass_no r u big 93 (by decide) hd wr h)
    have HI3 := Lib.hid (show Rx.items (fun _ => false) t1 = match Rx.item u with
        | none => none
        | some ((lo, hi), r) => Px.rest (fun c => g c || Rx.rng lo hi c) r by rw [HI2.out, Px.rest, if_neg hd, Px.items_rest])
    clear h hd HI2
    go_wp2_with fail
    refine P.out.mono ?_
    rintro e w3 ⟨rfl, h, g3⟩
    replace N := N.grown g3 nr
    replace X := Px.box_grown g3 X hGr
    replace G0 := G0.trans g3
    clear g3 P
    obtain ⟨a, b, u', hit⟩ : ∃ (a b : Int) (u' : List Int), ∀ p, Rx.item u = some p → p = ((a, b), u') := by
      cases ho : Rx.item u with
      | none => exact ⟨0, 0, [], fun p hp => by simp at hp⟩
      | some p =>
        obtain ⟨⟨a, b⟩, u'⟩ := p
        exact ⟨a, b, u', fun p hp => by injection hp with hp; exact hp.symm⟩
    have HIT := Lib.hid hit
    clear hit
    go_upto_region 4 with fail
    have WC : Px.WC w r big G g a b u u' (fun _ => false) w3 := ⟨X, N, G0, h, fun e => by simp at e⟩
    clear X N G0 h
    refine Rg.regionZ (by kernel_rfl) (by kernel_rfl) (by kernel_rfl) (by decide) (Rg.rel (Px.relC r g a b)) (Px.WC w r big G g a b u u') (fun _ w w' => w.grownBy w' (some r)) (fun c x => Ending.panicked c = Px.up 20 ∧ w.grownBy x (some r) ∧ Rx.item u = none) ?_ (fun i j v w w' _ h hb => Px.relC_up h hb) (WC.up (Below.refl _ _).drew) ⟨?_, ?_, ?_, ?_, ?_, trivial⟩ ?_
    · rintro c b' x hbd ⟨hc, hg, hn⟩
      have HC2 := Lib.hid (show Rx.cls t = none by rw [HC.out, HI3.out, hn]; rfl)
      exact ⟨hbd, by rw [HC2.out]; exact hc, hg⟩
    · intro L f x hL hw hd
      have HW := Lib.hid hw
      clear hw hd
      simp only [Rg.stepZ, Rg.all, Act.put, List.setIfInBounds_toArray, List.set_cons_zero, List.set_cons_succ]
      have c0 := HW.out.box.cell 0 (by decide); have c1 := HW.out.box.cell 1 (by decide); have c2 := HW.out.box.cell 2 (by decide); have c3 := HW.out.box.cell 3 (by decide)
      go_simp
      exact ⟨rfl, HW.out.on 0 (by decide), World.grownBy.refl _ _⟩
    · intro L f x hL hw hd
      have HW := Lib.hid hw
      clear hw hd
      simp only [Rg.stepZ, Rg.all, Act.put, List.setIfInBounds_toArray, List.set_cons_zero, List.set_cons_succ]
      go_simp
      exact ⟨rfl, HW.out.on 1 (by decide), World.grownBy.refl _ _⟩
    · intro L f x hL hw hd
      have r1 : f 1 = .pointer (some ⟨r, 0, none⟩) := (hd _ (List.mem_cons_self ..)).2
      have HW := Lib.hid hw
      clear hw hd
      simp only [Rg.stepZ, Rg.all, Act.put, List.setIfInBounds_toArray, List.set_cons_zero, List.set_cons_succ]
      go_simp
      have hst := HW.out.st
      rw [hL] at hst
      refine (item_any r u big x hst).mono ?_
      intro e x1 hP
      cases ho : Rx.item u with
      | none =>
        rw [ho] at hP
        exact .inr ⟨_, hP.1, rfl, HW.out.gr.trans hP.2, rfl⟩
      | some p =>
        have hp := HIT.out p ho
        subst hp
        rw [ho] at hP
        obtain ⟨⟨rfl, h⟩, hg⟩ := hP
        exact .inl ⟨_, rfl, rfl, ⟨Px.box_grown hg HW.out.box hGr, HW.out.nod.grown hg nr, HW.out.gr.trans hg, by simpa using h, fun _ => ho⟩, hg⟩
    · intro L f x hL hw hd
      have r0 : f 0 = Bs.val g := (hd _ (List.mem_cons_self ..)).2
      have r2 : f 2 = Bs.val (Rx.rng a b) := (hd _ (List.mem_cons_of_mem _ (List.mem_cons_self ..))).2
      unfold Bs.val at r0 r2
      have hx : x.heap.size ≠ r := by have := hw.st.lt; omega
      have HW := Lib.hid hw
      clear hw hd
      simp only [Rg.stepZ, Rg.all, Act.put, List.setIfInBounds_toArray, List.set_cons_zero, List.set_cons_succ]
      go_simp
      exact ⟨⟨_, rfl, hx, Px.row_two x g (Rx.rng a b)⟩, (HW.out.up (Bs.below1 x _)).on 3 (by decide), Rx.grown_of r (Bs.below1 x _)⟩
    · intro L f x hL hw hd
      obtain ⟨bb, e3, hn3, h3⟩ : ∃ b', f 3 = .slice (some ⟨b', 0, none⟩) 2 2 ∧ b' ≠ r ∧ Bs.Row x (some ⟨b', 0, none⟩) [g, Rx.rng a b] := (hd _ (List.mem_cons_self ..)).2
      have H3 := Lib.hid h3
      clear h3
      have HW := Lib.hid hw
      clear hw hd
      simp only [Rg.stepZ, Rg.all, Act.put, List.setIfInBounds_toArray, List.set_cons_zero, List.set_cons_succ]
      go_simp
      refine (orB_any _ [g, Rx.rng a b] 2 x H3.out (by simp)).mono ?_
      rintro e x1 ⟨rfl, hb⟩
      exact .inl ⟨_, rfl, rfl, (HW.out.up hb).on 4 (by decide), Rx.grown_of r hb⟩
    · intro L f x hall hw hR o ho
      have r4 : f 4 = Bs.val (Bs.orL [g, Rx.rng a b]) := hR 4 (by decide)
      have hok := hw.ok (hall 2 (by decide))
      have hst := hw.st
      rw [if_pos (hall 2 (by decide))] at hst
      have X := hw.box
      have N := hw.nod
      have G1 := hw.gr
      simp at ho
      subst ho
      simp only [Rg.stepZ, Rg.all, Act.put, List.setIfInBounds_toArray, List.set_cons_zero, List.set_cons_succ]
      have z0 := X.cell 0 (by decide); have z1 := X.cell 1 (by decide); have z2 := X.cell 2 (by decide); have z3 := X.cell 3 (by decide)
      have g0 := X.frz 0 (by decide); have g1 := X.frz 1 (by decide); have g2 := X.frz 2 (by decide); have g3 := X.frz 3 (by decide)
      rw [Px.or_is] at r4
      unfold Bs.val at r4
      have HX := Lib.hid X
      have HN := Lib.hid N
      have HG := Lib.hid G1
      have HS := Lib.hid hst
      have HI4 := Lib.hid (show Rx.items (fun _ => false) t1 = Px.rest (fun c => g c || Rx.rng a b c) u' by rw [HI3.out, hok])
      have hlen := Rx.item_len hok
      clear X N G1 hst hw hR hall HI3 hok WC HIT
      go_simp
      go_wp2_with fail
      go_roundg (u'.length)
      case measure => omega
      have nG : G ≠ w.heap.size := by omega
      exact ⟨_, u', rfl, HI4.out, HX.out.write _, HN.out.grown (Rx.grown_set (Rx.grown_set (Rx.grown_set (Rx.grown_set (Rx.grown_of G (Below.refl _ _)) _ _) _ _) _ _) _ _) (Ne.symm nG), Rx.grown_far (Rx.grown_far (Rx.grown_far (Rx.grown_far HG.out (by omega) _ _) (by omega) _ _) (by omega) _ _) (by omega) _ _, HS.out.far4 hGr _ _ _ _⟩
open Go.RowKit
/-- an ATOM -/
def Px.atom : List Int → Option (Rx × List Int)
  | [] => none
  | c :: r =>
    if c = 40 then
      match Rx.alt r with
      | none => none
      | some (xs, t) => if t.head? = some 41 then some (Rx.several 3 xs, t.drop 1) else none
    else if c = 91 then Rx.cls r
    else if c = 46 then some (Rx.but (Rx.rng 10 10), r)
    else if c = 92 then (Rx.esc r).map fun p => (Rx.sign p.1, p.2)
    else if Rx.special c = true then none
    else some (Rx.sign c, r)
theorem Px.rep_atom (t : List Int) : Rx.rep t = (Px.atom t).map fun p => Rx.post p.1 p.2 := by
  cases t with
  | nil => rw [Rx.rep_nil]; rfl
  | cons c r =>
    rw [Rx.rep_cons, Px.atom]
    split
    · cases h : Rx.alt r with
      | none => rfl
      | some p =>
        obtain ⟨xs, u⟩ := p
        simp only
        split <;> rfl
    · split
      · rfl
      · split
        · rfl
        · split
          · cases h : Rx.esc r with
            | none => rfl
            | some p => rfl
          · split <;> rfl
/-- an expression is read (another one where it has grown too big), or the text is given up -/
def Px.AP (w : World) (r : Nat) (big : Bool) (n K : Nat) (o : Option (Rx × List Int)) (e : Ending) (w' : World) : Prop :=
  (match o with
  | some (x, t) => ∃ (y : Rx) (β : Bool), (∃ v, e = .returned v ∧ Rx.IsB w' (w.heap.size ≤ ·) y v) ∧ (β = false → y = x) ∧ (β = true → x.may 1 = false) ∧ y.size + 500 * t.length ≤ 500 * n + K ∧ Px.St w' r t (big || β)
  | none => e = Px.up 20) ∧ w.grownBy w' (some r)
theorem Px.atom_len {t : List Int} {x : Rx} {u : List Int} (h : Px.atom t = some (x, u)) : u.length < t.length := by
  cases t with
  | nil => simp [Px.atom] at h
  | cons c r =>
    rw [Px.atom] at h
    split at h
    · split at h
      · simp at h
      · rename_i xs t' ha
        have := Rx.alt_len ha
        split at h
        · simp only [Option.some.injEq, Prod.mk.injEq] at h; rw [← h.2]; simp; omega
        · simp at h
    · split at h
      · have := Rx.cls_len h; simp; omega
      · split at h
        · simp only [Option.some.injEq, Prod.mk.injEq] at h; rw [← h.2]; simp
        · split at h
          · simp only [Option.map_eq_some_iff, Prod.mk.injEq] at h
            obtain ⟨p, h1, _, h2⟩ := h
            have := Rx.esc_len (c := p.1) (r := p.2) h1
            rw [← h2]; simp; omega
          · split at h
            · simp at h
            · simp only [Option.some.injEq, Prod.mk.injEq] at h; rw [← h.2]; simp
def Px.outS : ByteArray := ⟨#[124, 42, 43, 63, 40, 41, 91, 93, 46, 92]⟩
theorem Px.out_one (c : Int) (u : List Int) : Px.oneOf Px.outS.data.toList (c :: u) = Rx.special c := by
  rw [Bool.eq_iff_iff]
  simp [Px.oneOf, Px.outS, Rx.special]
  omega
theorem Px.size_may {x : Rx} (h : x.may 1 = true) : x.size ≤ 400 := (Rx.may_iff.1 h).2.2
theorem Px.mean_sign {S : ByteArray} {t : List Int} {c : Int} {u : List Int} (ht : Rn.Signs t) (h : Px.mean S t = some (c, u)) : Rn.signI c = true := by
  cases t with
  | nil => simp [Px.mean] at h
  | cons a v =>
    simp only [Px.mean] at h
    split at h
    · have := Px.esc_low h
      simp [Rn.signI]; omega
    · split at h
      · simp at h
      · simp only [Option.some.injEq, Prod.mk.injEq] at h
        rw [← h.1]; exact ht a (by simp)
theorem Px.VPost.ap {w w' : World} {r : Nat} {big : Bool} {n K : Nat} {o : Option (Rx × List Int)} {e : Ending} (h : Px.VPost w r big o e w') (hs : ∀ x t, o = some (x, t) → x.size + 500 * t.length ≤ 500 * n + K) : Px.AP w r big n K o e w' := by
  refine ⟨?_, h.2⟩
  have h1 := h.1
  cases o with
  | none => exact h1
  | some p =>
    obtain ⟨x, t⟩ := p
    exact ⟨x, false, h1.1, fun _ => rfl, fun e => by simp at e, hs x t rfl, by simpa using h1.2⟩
set_option maxRecDepth 100000 in
set_option maxHeartbeats 2000000 in
theorem atom_any (r : Nat) (t : List Int) (big : Bool) (w : World) (h : Px.St w r t big)
    (halt : ∀ (u : List Int) (b : Bool) (w : World), u.length < t.length → Px.St w r u b → Calls Try.prog 62 #[.pointer (some ⟨r, 0, none⟩)] w (Px.AP w r b u.length 2 ((Rx.alt u).map fun p => (Rx.several 3 p.1, p.2)))) :
    Calls Try.prog 100 #[.pointer (some ⟨r, 0, none⟩)] w (Px.AP w r big t.length 0 (Px.atom t)) := by
  have hr := h.lt
  have nr : w.heap.size ≠ r := by omega
  have N := Rx.nod_zero w
  have A := Bs.below1 w (.cells #[.int .u8 0, .int .u64 0, .int .u64 0, .int .u64 0, .int .u64 0, .slice none 0 0] 28)
  have G0 := Rx.grown_of r A
  replace h := h.up A
  clear A
  have HALT := Lib.hid halt
  clear halt
  go_enter Try.func100, Try.ntmps100
  by_cases h0 : t.head? = some (40 : Int)
  · obtain ⟨u, rfl⟩ := Px.head_is h0
    have P := Lib.hid (pass_yes r u big 40 (by decide) _ h)
    have HA := Lib.hid (show Px.atom (40 :: u) = match Rx.alt u with
      | none => none
      | some (xs, t) => if t.head? = some 41 then some (Rx.several 3 xs, t.drop 1) else none by rw [Px.atom, if_pos rfl])
    clear h0 h
    go_wp2_with fail
    generalize w.alloc (.cells #[.int .u8 0, .int .u64 0, .int .u64 0, .int .u64 0, .int .u64 0, .slice none 0 0] 28) = W at *
    refine P.out.mono ?_
    rintro e w1 ⟨rfl, h, g⟩
    replace N := N.grown g nr
    replace G0 := G0.trans g
    clear g P
    have hsz : w.heap.size + 1 ≤ w1.heap.size := N.lt
    go_wp2_with fail
    refine (HALT.out u big w1 (by simp) h).mono ?_
    intro e w2 hP
    clear h HALT
    cases ha : Rx.alt u with
    | none =>
      rw [ha] at hP HA
      obtain ⟨rfl, g⟩ := hP
      exact ⟨rfl, by rw [HA.out]; exact rfl, G0.trans g⟩
    | some p =>
      obtain ⟨xs, u1⟩ := p
      rw [ha] at hP HA
      obtain ⟨⟨y, β, ⟨v, rfl, hy⟩, hb1, hb2, hs, h⟩, g⟩ := hP
      replace N := N.grown g nr
      replace G0 := G0.trans g
      obtain ⟨k, f, a, n, cap, rfl⟩ := hy.form
      have X := hy.lt.mono (B' := fun j => w.heap.size + 1 ≤ j ∧ j < w2.heap.size) (fun j hj => ⟨by omega, hj.2⟩)
      clear hy g ha
      have A := Bs.below1 w2 (.cells #[.int .u8 k, .int .u64 (Bs.word f 0), .int .u64 (Bs.word f 1), .int .u64 (Bs.word f 2), .int .u64 (Bs.word f 3), .slice a n cap] 28)
      have N2 := Rx.nod_new w2 k f a n cap
      have hG : w.heap.size < w2.heap.size := N.lt
      have hGr : w2.heap.size ≠ r := by have := h.lt; omega
      replace N := N.up A
      replace G0 := Px.grown_up G0 A
      replace h := h.up A
      replace X := X.up A
      have HX := Lib.hid X
      clear A X
      unfold Rx.hdr at HX ⊢
      by_cases h1 : u1.head? = some (41 : Int)
      · obtain ⟨u2, rfl⟩ := Px.head_is h1
        have HA2 := Lib.hid (show Px.atom (40 :: u) = some (Rx.several 3 xs, u2) by rw [HA.out]; rfl)
        have P := Lib.hid (pass_yes r u2 (big || β) 41 (by decide) _ h)
        clear h HA h1
        go_wp2_with fail
        generalize w2.alloc (.cells #[.int .u8 k, .int .u64 (Bs.word f 0), .int .u64 (Bs.word f 1), .int .u64 (Bs.word f 2), .int .u64 (Bs.word f 3), .slice a n cap] 28) = V at *
        generalize w2.heap.size = G at *
        refine P.out.mono ?_
        rintro e w3 ⟨rfl, h, g⟩
        replace N := N.grown g nr
        replace N2 := N2.grown g hGr
        replace G0 := G0.trans g
        have HX2 := Lib.hid (HX.out.grown g (fun j hj e => by injection e with e; omega))
        clear g P HX
        have NY := Lib.hid (need_yes 20 w3)
        go_wp2_with fail
        refine NY.out.mono ?_
        rintro e w4 ⟨rfl, rfl⟩
        obtain ⟨⟨c0, c1, c2, c3, c4, c5⟩, _⟩ := N2
        obtain ⟨⟨d0, d1, d2, d3, d4, d5⟩, z⟩ := N
        simp only [Nat.zero_add] at c0 c1 c2 c3 c4 c5 d0 d1 d2 d3 d4 d5
        have y0 := z 0 (by decide); have y1 := z 1 (by decide); have y2 := z 2 (by decide); have y3 := z 3 (by decide); have y4 := z 4 (by decide); have y5 := z 5 (by decide)
        have H := Lib.hid h
        clear z NY h
        go_wp2_with fail
        refine bodyPost_ret (v := Rx.hdr k f a n cap) (by simp [results, Try.results100, go_sem, Rx.hdr, d0, d1, d2, d3, d4, d5]) rfl ⟨?_, ?_⟩
        · rw [HA2.out]
          exact ⟨y, β, ⟨_, rfl, (HX2.out.wr (b := w.heap.size) (by omega) k f a n cap).mono (fun j hj => by omega)⟩, hb1, hb2, by simp at hs ⊢; omega, H.out.wr nr k f a n cap⟩
        · exact Rx.wr_far G0 (Nat.le_refl _) k f a n cap
      · have HA2 := Lib.hid (show Px.atom (40 :: u) = none by rw [HA.out]; exact if_neg h1)
        have P := Lib.hid (pass_no r u1 (big || β) 41 (by decide) h1 _ h)
        clear h HA h1
        go_wp2_with fail
        refine P.out.mono ?_
        rintro e w3 ⟨rfl, h, g⟩
        have NN := Lib.hid (need_no 20 w3)
        go_wp2_with fail
        refine NN.out.mono ?_
        rintro e w4 ⟨rfl, rfl⟩
        exact ⟨rfl, by rw [HA2.out]; exact rfl, G0.trans g⟩
  have P := Lib.hid (pass_no r t big 40 (by decide) h0 _ h)
  clear h HALT
  go_wp2_with fail
  generalize w.alloc (.cells #[.int .u8 0, .int .u64 0, .int .u64 0, .int .u64 0, .int .u64 0, .slice none 0 0] 28) = W at *
  refine P.out.mono ?_
  rintro e w1 ⟨rfl, h, g⟩
  replace N := N.grown g nr
  replace G0 := G0.trans g
  clear g P
  by_cases h1 : t.head? = some (91 : Int)
  · obtain ⟨u, rfl⟩ := Px.head_is h1
    have HA := Lib.hid (show Px.atom (91 :: u) = Rx.cls u by simp [Px.atom])
    have P := Lib.hid (pass_yes r u big 91 (by decide) _ h)
    clear h0 h1 h
    go_wp2_with fail
    refine P.out.mono ?_
    rintro e w2 ⟨rfl, h, g⟩
    replace N := N.grown g nr
    replace G0 := G0.trans g
    clear g P
    have hsz : w.heap.size + 1 ≤ w2.heap.size := N.lt
    go_wp2_with fail
    refine (class_any r u big w2 h).mono ?_
    intro e w3 hP
    cases hc : Rx.cls u with
    | none =>
      rw [hc] at hP HA
      obtain ⟨rfl, g⟩ := hP
      exact ⟨rfl, by rw [HA.out]; exact rfl, G0.trans g⟩
    | some p =>
      obtain ⟨x, u1⟩ := p
      rw [hc] at hP HA
      have hs1 := Px.size_may (Rx.may_cls hc)
      have hs2 := Rx.cls_len hc
      obtain ⟨⟨⟨v, rfl, hy⟩, h2⟩, g⟩ := hP
      replace N := N.grown g nr
      replace G0 := G0.trans g
      replace hy := hy.mono (B' := (w.heap.size + 1 ≤ ·)) (fun j hj => by omega)
      obtain ⟨k, f, a, n, cap, rfl⟩ := hy.form
      have HX := Lib.hid hy
      have H := Lib.hid h2
      clear hy g hc h h2
      obtain ⟨⟨d0, d1, d2, d3, d4, d5⟩, z⟩ := N
      simp only [Nat.zero_add] at d0 d1 d2 d3 d4 d5
      have y0 := z 0 (by decide); have y1 := z 1 (by decide); have y2 := z 2 (by decide); have y3 := z 3 (by decide); have y4 := z 4 (by decide); have y5 := z 5 (by decide)
      clear z
      unfold Rx.hdr
      go_wp2_with fail
      refine bodyPost_ret (v := Rx.hdr k f a n cap) (by simp [results, Try.results100, go_sem, Rx.hdr, d0, d1, d2, d3, d4, d5]) rfl ⟨?_, ?_⟩
      · rw [HA.out]
        exact ⟨x, false, ⟨_, rfl, (HX.out.wr (b := w.heap.size) (by omega) k f a n cap).mono (fun j hj => by omega)⟩, fun _ => rfl, fun e => by simp at e, by simp; omega, by rw [Bool.or_false]; exact H.out.wr nr k f a n cap⟩
      · exact Rx.wr_far G0 (Nat.le_refl _) k f a n cap
  have P := Lib.hid (pass_no r t big 91 (by decide) h1 _ h)
  clear h
  go_wp2_with fail
  refine P.out.mono ?_
  rintro e w2 ⟨rfl, h, g⟩
  replace N := N.grown g nr
  replace G0 := G0.trans g
  clear g P
  by_cases h2 : t.head? = some (46 : Int)
  · obtain ⟨u, rfl⟩ := Px.head_is h2
    have HA := Lib.hid (show Px.atom (46 :: u) = some (Rx.but (Rx.rng 10 10), u) by simp [Px.atom])
    have P := Lib.hid (pass_yes r u big 46 (by decide) _ h)
    clear h0 h1 h2 h
    go_wp2_with fail
    refine P.out.mono ?_
    rintro e w3 ⟨rfl, h, g⟩
    replace N := N.grown g nr
    replace G0 := G0.trans g
    clear g P
    have hsz : w.heap.size + 1 ≤ w3.heap.size := N.lt
    have SB := signBut_any (fun _ => false) w3
    rw [Bs.val_none, show (fun c => (fun _ => false) c || Rx.rng 10 10 c) = Rx.rng 10 10 by funext c; simp] at SB
    have SB := Lib.hid SB
    go_wp2_with fail
    refine SB.out.mono ?_
    rintro e w4 ⟨v, rfl, hy, hb⟩
    replace N := N.up hb
    replace G0 := Px.grown_up G0 hb
    replace h := h.up hb
    replace hy := hy.mono (B' := (w.heap.size + 1 ≤ ·)) (fun j hj => by omega)
    obtain ⟨k, f, a, n, cap, rfl⟩ := hy.form
    have hs1 := Px.size_may (Rx.may_but (Rx.rng 10 10))
    have HX := Lib.hid hy
    have H := Lib.hid h
    clear hy h hb
    obtain ⟨⟨d0, d1, d2, d3, d4, d5⟩, z⟩ := N
    simp only [Nat.zero_add] at d0 d1 d2 d3 d4 d5
    have y0 := z 0 (by decide); have y1 := z 1 (by decide); have y2 := z 2 (by decide); have y3 := z 3 (by decide); have y4 := z 4 (by decide); have y5 := z 5 (by decide)
    clear z
    unfold Rx.hdr
    go_wp2_with fail
    refine bodyPost_ret (v := Rx.hdr k f a n cap) (by simp [results, Try.results100, go_sem, Rx.hdr, d0, d1, d2, d3, d4, d5]) rfl ⟨?_, ?_⟩
    · rw [HA.out]
      exact ⟨_, false, ⟨_, rfl, (HX.out.wr (b := w.heap.size) (by omega) k f a n cap).mono (fun j hj => by omega)⟩, fun _ => rfl, fun e => by simp at e, by simp; omega, by rw [Bool.or_false]; exact H.out.wr nr k f a n cap⟩
    · exact Rx.wr_far G0 (Nat.le_refl _) k f a n cap
  have P := Lib.hid (pass_no r t big 46 (by decide) h2 _ h)
  clear h
  go_wp2_with fail
  refine P.out.mono ?_
  rintro e w3 ⟨rfl, h, g⟩
  replace N := N.grown g nr
  replace G0 := G0.trans g
  clear g P
  have HA := Lib.hid (show Px.atom t = (Px.mean Px.outS t).map fun p => (Rx.sign p.1, p.2) by
    cases t with
    | nil => rfl
    | cons c u =>
      simp only [List.head?_cons, Option.some.injEq] at h0 h1 h2
      rw [Px.atom, if_neg h0, if_neg h1, if_neg h2, Px.mean, Px.out_one]
      split
      · rfl
      · split <;> rfl)
  have HS := Lib.hid (show ∀ c u, Px.mean Px.outS t = some (c, u) → Rn.signI c = true from fun c u e => Px.mean_sign (by obtain ⟨s, _, hs⟩ := h.c0; exact hs.sg) e)
  have HL := Lib.hid (show ∀ c u, Px.mean Px.outS t = some (c, u) → u.length < t.length from fun c u e => Px.atom_len (x := Rx.sign c) (by rw [HA.out, e]; rfl))
  have M := Lib.hid (meant_any r t big Px.outS (by decide) w3 h)
  clear h h0 h1 h2
  go_wp2_with fail
  refine M.out.mono ?_
  intro e w4 hP
  clear M
  cases hm : Px.mean Px.outS t with
  | none =>
    rw [hm] at hP HA
    obtain ⟨rfl, g⟩ := hP
    exact ⟨rfl, by rw [HA.out]; exact rfl, G0.trans g⟩
  | some p =>
    obtain ⟨c, u⟩ := p
    have hsg := HS.out c u hm
    have hln := HL.out c u hm
    rw [hm] at hP HA
    obtain ⟨⟨rfl, h⟩, g⟩ := hP
    replace N := N.grown g nr
    replace G0 := G0.trans g
    have hsz : w.heap.size + 1 ≤ w4.heap.size := N.lt
    clear g hm HS HL
    go_wp2_with fail
    refine (psignx_any c hsg w4).mono ?_
    rintro e w5 ⟨v, rfl, hy, hb⟩
    replace N := N.up hb
    replace G0 := Px.grown_up G0 hb
    replace h := h.up hb
    replace hy := hy.mono (B' := (w.heap.size + 1 ≤ ·)) (fun j hj => by omega)
    obtain ⟨k, f, a, n, cap, rfl⟩ := hy.form
    have hs1 := Px.size_may (Rx.may_sign c)
    have HX := Lib.hid hy
    have H := Lib.hid h
    clear hy h hb
    obtain ⟨⟨d0, d1, d2, d3, d4, d5⟩, z⟩ := N
    simp only [Nat.zero_add] at d0 d1 d2 d3 d4 d5
    have y0 := z 0 (by decide); have y1 := z 1 (by decide); have y2 := z 2 (by decide); have y3 := z 3 (by decide); have y4 := z 4 (by decide); have y5 := z 5 (by decide)
    clear z
    unfold Rx.hdr
    go_wp2_with fail
    refine bodyPost_ret (v := Rx.hdr k f a n cap) (by simp [results, Try.results100, go_sem, Rx.hdr, d0, d1, d2, d3, d4, d5]) rfl ⟨?_, ?_⟩
    · rw [HA.out]
      exact ⟨_, false, ⟨_, rfl, (HX.out.wr (b := w.heap.size) (by omega) k f a n cap).mono (fun j hj => by omega)⟩, fun _ => rfl, fun e => by simp at e, by simp only; omega, by rw [Bool.or_false]; exact H.out.wr nr k f a n cap⟩
    · exact Rx.wr_far G0 (Nat.le_refl _) k f a n cap
end Go.Proofs.Ytigdelfoipcilaa
