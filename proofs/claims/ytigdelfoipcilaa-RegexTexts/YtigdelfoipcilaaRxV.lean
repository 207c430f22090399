/- What the document's cat and alt answer, walked. What the document's Parse answers, walked. -/
import Derived.Test.YtigdelfoipcilaaRxT
import Derived.Test.YtigdelfoipcilaaBsO
import Derived.Test.YtigdelfoipcilaaRnF
import Derived.Deep.QuietTactic
import Derived.BigQuiet
namespace Go.Proofs.Ytigdelfoipcilaa
set_option linter.unusedVariables false
set_option linter.unusedSimpArgs false
open Go.RowKit
theorem Rx.Rd.low {B : Nat} {w w' : World} {r : Nat} {a : Option Addr} {L : List Int} {cap : Nat} {i : Int} {bad big : Bool} (h : Rx.Rd w r a L cap i bad big) (hb : Below B w w') (hr : r < B) (ha : ∀ x, a = some x → L ≠ [] → x.block < B) : Rx.Rd w' r a L cap i bad big := by
  refine ⟨?_, ?_, ?_, ?_, by rw [hb.frozen hr]; exact h.z1, by rw [hb.frozen hr]; exact h.z2, by rw [hb.frozen hr]; exact h.z3, fun k hk => ?_, h.ne, h.nn, h.ln, fun j v hv => h.only j v (by rw [← hb.cell (p := ⟨r, j, none⟩) hr]; exact hv)⟩
  · rw [hb.cell hr]; exact h.c0
  · rw [hb.cell hr]; exact h.c1
  · rw [hb.cell hr]; exact h.c2
  · rw [hb.cell hr]; exact h.c3
  · obtain ⟨x, e, hx⟩ := h.sg k hk
    refine ⟨x, e, ?_⟩
    rw [hb.cell (by rw [Rx.add_block]; exact ha x e (fun e0 => by rw [e0] at hk; simp at hk))]
    exact hx
theorem Rx.St.low {B : Nat} {w w' : World} {r : Nat} {a : Option Addr} {L : List Int} {cap : Nat} {t : Option (List Int)} {big : Bool} (h : Rx.St w r a L cap t big) (hb : Below B w w') (hr : r < B) (ha : ∀ x, a = some x → L ≠ [] → x.block < B) : Rx.St w' r a L cap t big := by
  cases t with
  | none => obtain ⟨i, h⟩ := h; exact ⟨i, h.low hb hr ha⟩
  | some t => obtain ⟨k, h1, h2, h⟩ := h; exact ⟨k, h1, h2, h.low hb hr ha⟩
/-- the worlds of cat and alt: the reader, the result's block, and a row of expressions of one's own -/
structure Rx.LW (w : World) (r : Nat) (a : Option Addr) (L : List Int) (cap : Nat) (t : Option (List Int)) (z : Bool) (v : Value) (ys : List Rx) (u : World) : Prop where
  st : Rx.St u r a L cap t z
  nod : Rx.Nod u w.heap.size 0 (fun _ => false) none 0 0
  own : Rx.Own (w.heap.size + 1) v ys u
  gr : w.grownBy u (some r)
  rq : r < w.heap.size
  ho : ∀ x, a = some x → L ≠ [] → x.block < w.heap.size
theorem Rx.LW.on {w : World} {r : Nat} {a : Option Addr} {L : List Int} {cap : Nat} {t t' : Option (List Int)} {z z' : Bool} {v : Value} {ys : List Rx} {u u' : World} (h : Rx.LW w r a L cap t z v ys u) (hs : Rx.St u' r a L cap t' z') (g : u.grownBy u' (some r)) : Rx.LW w r a L cap t' z' v ys u' := by
  have h1 := h.rq
  exact ⟨hs, h.nod.grown g (by omega), h.own.grown g (fun k hk => by injection hk; omega), h.gr.trans g, h.rq, h.ho⟩
theorem Rx.LW.up {w : World} {r : Nat} {a : Option Addr} {L : List Int} {cap : Nat} {t : Option (List Int)} {z : Bool} {v : Value} {ys : List Rx} {u u' : World} (h : Rx.LW w r a L cap t z v ys u) (hb : Below u.heap.size u u') : Rx.LW w r a L cap t z v ys u' := h.on (h.st.up hb) (Rx.grown_of r hb)
theorem Rx.LW.app {w : World} {r : Nat} {a : Option Addr} {L : List Int} {cap : Nat} {t : Option (List Int)} {z : Bool} {v v' : Value} {ys zs : List Rx} {u u' : World} (h : Rx.LW w r a L cap t z v ys u) (O : Rx.Own (w.heap.size + 1) v' zs u') (g : u.grownBy u' v.ownBlock) : Rx.LW w r a L cap t z v' zs u' := by
  have h1 := h.rq
  have hk : ∀ k, v.ownBlock = some k → w.heap.size + 1 ≤ k := fun k hk => (h.own.lt k hk).1
  have hs : w.heap.size + 1 ≤ u.heap.size := by have := h.nod.lt; omega
  have hb : Below (w.heap.size + 1) u u' := (Below.refl _ _).grown g hs hk
  refine ⟨h.st.low hb (by omega) (fun x e e' => by have := h.ho x e e'; omega), h.nod.own g (fun j hj => by have := hk j hj; omega), O, ⟨g.os.trans h.gr.os, g.tape.trans h.gr.tape, g.output.trans h.gr.output, Nat.le_trans h.gr.size g.size, fun k hk1 hk2 => ?_⟩, h.rq, h.ho⟩
  rw [hb.block k (by omega)]
  exact h.gr.block k hk1 hk2
theorem Rx.LW.ret {w : World} {r : Nat} {a : Option Addr} {L : List Int} {cap : Nat} {t : Option (List Int)} {z big : Bool} {q : Value} {ys : List Rx} {y : Rx} {v : World} {k : Nat} {f : Nat → Bool} {x : Option Addr} {n c : Nat} (h : Rx.LW w r a L cap t z q ys v) (hx : Rx.IsB v (w.heap.size + 1 ≤ ·) y (Rx.hdr k f x n c)) {o : Option (Rx × List Int)} (ho : o.map (·.2) = t) (hz : ∀ x t, o = some (x, t) → z = (big || !x.may 1) ∧ (z = false → y = x)) : Rx.GPost w r a L cap o big (.returned (Rx.hdr k f x n c)) (Rx.wr v w.heap.size k f x n c) := by
  have h1 := h.rq
  have hn : ∀ x, a = some x → L ≠ [] → x.block ≠ w.heap.size := fun x e e' => by have := h.ho x e e'; omega
  have hd : w.heap.size ≠ r := by omega
  exact ⟨_, y, z, rfl, (hx.wr (b := w.heap.size) (by omega) k f x n c).mono (fun j hj => by omega), Rx.wr_far h.gr (Nat.le_refl _) k f x n c, by rw [ho]; exact (((((h.st.far hd hn _ _).far hd hn _ _).far hd hn _ _).far hd hn _ _).far hd hn _ _).far hd hn _ _, hz⟩
/-- what comes of a flag where a part may be too big -/
theorem Rx.flag {big z m : Bool} {x' y' : Rx} (hz : z = (big || !m)) (hp : x'.may 1 = true → m = true) (hxy : z = false → y' = x') : (z || !y'.may 1) = (big || !x'.may 1) := by
  cases z with
  | false =>
    rw [hxy rfl]
    cases hb : big with
    | true => rw [hb] at hz; simp at hz
    | false => rfl
  | true =>
    cases hb : big with
    | true => simp
    | false =>
      rw [hb] at hz
      cases h' : x'.may 1 with
      | false => simp
      | true => rw [hp h'] at hz; simp at hz
/-- what is known of the parts that were read: no flag: they are as they should be -/
def Rx.AsRead (big z : Bool) (xs ys : List Rx) : Prop := ys.length = xs.length ∧ z = (big || !xs.all (·.may 1)) ∧ (z = false → ys = xs)
theorem Rx.asRead_nil (big : Bool) : Rx.AsRead big big [] [] := ⟨rfl, by simp, fun _ => rfl⟩
theorem Rx.asRead_snoc {big z z' : Bool} {xs ys : List Rx} {x y : Rx} (h : Rx.AsRead big z xs ys) (h1 : z' = (z || !x.may 1)) (h2 : z' = false → y = x) : Rx.AsRead big z' (xs ++ [x]) (ys ++ [y]) := by
  obtain ⟨a1, a2, a3⟩ := h
  refine ⟨by simp [a1], ?_, fun e => ?_⟩
  · rw [h1, a2]
    simp only [List.all_append, List.all_cons, List.all_nil, Bool.and_true]
    cases big <;> cases xs.all (·.may 1) <;> cases x.may 1 <;> rfl
  · rw [h2 e]
    rw [e] at h1
    rw [a3 (by
      cases hz : z with
      | false => rfl
      | true => rw [hz] at h1; simp at h1)]
theorem Rx.all_may {xs : List Rx} {x' : Rx} (h : ∀ x ∈ xs, x'.may 1 = true → x.may 1 = true) (hm : x'.may 1 = true) : xs.all (·.may 1) = true := by
  rw [List.all_eq_true]
  exact fun x hx => h x hx hm
theorem Rx.cat_stop {u : List Int} (h : (u.head? = none ∨ u.head? = some 124) ∨ u.head? = some 41) : Rx.cat u = some ([], u) := by rw [Rx.cat_eq, if_pos h]
theorem Rx.cat_bad {q : Int} {u : List Int} (h : ¬ ((((q :: u).head? : Option Int) = none ∨ (q :: u).head? = some 124) ∨ (q :: u).head? = some 41)) (hr : Rx.rep (q :: u) = none) : Rx.cat (q :: u) = none := by rw [Rx.cat_eq, if_neg h, hr]
theorem Rx.cat_go {q : Int} {u t : List Int} {x : Rx} (h : ¬ ((((q :: u).head? : Option Int) = none ∨ (q :: u).head? = some 124) ∨ (q :: u).head? = some 41)) (hr : Rx.rep (q :: u) = some (x, t)) : Rx.cat (q :: u) = (Rx.cat t).map fun p => (x :: p.1, p.2) := by
  rw [Rx.cat_eq, if_neg h, hr]
  simp only
  cases Rx.cat t with
  | none => rfl
  | some p => rfl
/-- behind a CAT of an ALT -/
def Rx.altT (u : List Int) : Option (List Rx × List Int) := if u.head? = some 124 then Rx.alt (u.drop 1) else some ([], u)
theorem Rx.alt_cat (l : List Int) : Rx.alt l = match Rx.cat l with
    | none => none
    | some (xs, u) => (Rx.altT u).map fun p => (Rx.catOf xs :: p.1, p.2) := by
  rw [Rx.alt_eq]
  cases Rx.cat l with
  | none => rfl
  | some p =>
    obtain ⟨xs, u⟩ := p
    simp only [Rx.altT]
    split
    · cases Rx.alt (u.drop 1) with
      | none => rfl
      | some p => rfl
    · rfl
set_option maxRecDepth 100000 in
set_option maxHeartbeats 8000000 in
theorem refCat_of (l : List Int) (hR : ∀ c l', l'.length + 1 ≤ l.length → Rx.RepC c l') : Rx.CatC l := by
  intro r a L cap big w h
  have hr : r < w.heap.size := by obtain ⟨i, b, R⟩ := h.bad; exact R.lt
  have hho := Lib.hid h.home
  have N := Rx.nod_zero w
  have B0 := Bs.below1 w (.cells #[.int .u8 0, .int .u64 0, .int .u64 0, .int .u64 0, .int .u64 0, .slice none 0 0] 28)
  have C : Rx.LW w r a L cap (some l) big (.slice none 0 0) [] (w.alloc (.cells #[.int .u8 0, .int .u64 0, .int .u64 0, .int .u64 0, .int .u64 0, .slice none 0 0] 28)) := ⟨h.up B0, N, Rx.own_nil _ _, Rx.grown_of r B0, hr, hho.out⟩
  have hln := h.ln
  clear N B0 h hho hr
  go_enter Try.func66, Try.ntmps66
  go_wp2_with fail
  generalize w.alloc (.cells #[.int .u8 0, .int .u64 0, .int .u64 0, .int .u64 0, .int .u64 0, .slice none 0 0] 28) = U at *
  go_loopw [3] (fun v wr => ∃ t z ys, Rx.LW w r a L cap t z v ys wr ∧ Hid ((t = none → Rx.cat l = none) ∧ ∀ u, t = some u → u.length ≤ l.length ∧ ys.length + u.length ≤ 1000 ∧ ∃ xs, Rx.cat l = (Rx.cat u).map (fun p => (xs ++ p.1, p.2)) ∧ Rx.AsRead big z xs ys)) (fun _ wr => Rx.left wr r L.length)
  case atStart => exact ⟨some l, big, [], C, Lib.hid ⟨fun h => by simp at h, fun u e => by injection e with e; subst e; exact ⟨Nat.le_refl _, by simpa using hln, [], by simp, Rx.asRead_nil big⟩⟩⟩
  case round =>
    clear C
    obtain ⟨t, z, ys, C, HI⟩ := hrel
    have HCW := Lib.hid C
    obtain ⟨cc, hcc⟩ : ∃ cc, Rx.hd t = cc := ⟨_, rfl⟩
    have hcut : Hid (∀ (hst : ∀ u, t = some u → Rx.cat u = some ([], u)), (((Rx.cat l).map fun p => (Rx.catOf p.1, p.2)).map (·.2)) = t ∧ ∀ x9 t9, (Rx.cat l).map (fun p => (Rx.catOf p.1, p.2)) = some (x9, t9) → ∃ xs9, x9 = Rx.catOf xs9 ∧ Rx.AsRead big z xs9 ys) := Lib.hid (by
      intro hst
      obtain ⟨h1, h2⟩ := HI.out
      cases t with
      | none => rw [h1 rfl]; exact ⟨rfl, fun x9 t9 e9 => by simp at e9⟩
      | some u =>
        obtain ⟨_, _, xs, h3, h4⟩ := h2 u rfl
        rw [h3, hst u rfl]
        refine ⟨rfl, fun x9 t9 e9 => ⟨xs, ?_, h4⟩⟩
        simp at e9
        exact e9.1.symm)
    by_cases hneg : cc < 0
    · have g0 : decide (0 ≤ cc) = false := decide_eq_false (by omega)
      have g1 : decide (cc ≥ 0) = false := decide_eq_false (by omega)
      have HT := Lib.hid (hcut.out (fun u e => Rx.cat_stop (by subst e; cases u with | nil => exact .inl (.inl rfl) | cons q u1 => simp only [Rx.hd] at hcc; have := C.st.nn q (List.mem_cons_self ..); omega)))
      have HSE := Lib.hid (refSee_any r a L cap t z _ C.st)
      rw [hcc] at HSE
      go_wp2_with fail
      refine HSE.out.mono ?_
      rintro e w1 ⟨rfl, q1, hq1⟩
      replace C := C.up (Rx.see_below hq1)
      clear hq1 HSE
      clear hcut HI HCW
      have HAS := Lib.hid HT.out.2
      have HO := Lib.hid (show (((Rx.cat l).map fun p => (Rx.catOf p.1, p.2)).map (·.2)) = t from by rw [HT.out.1])
      by_cases hy : ys = []
      · subst hy
        have e9 := C.own.2 rfl
        subst e9
        have e0 := C.nod.cell.c0; have e1 := C.nod.cell.c1; have e2 := C.nod.cell.c2; have e3 := C.nod.cell.c3; have e4 := C.nod.cell.c4; have e5 := C.nod.cell.c5
        have z9 := C.nod.frz
        simp only [Nat.zero_add] at e0 e1 e2 e3 e4 e5
        have z0 := z9 0 (by decide); have z1 := z9 1 (by decide); have z2 := z9 2 (by decide); have z3 := z9 3 (by decide); have z4 := z9 4 (by decide); have z5 := z9 5 (by decide)
        have HC := Lib.hid C
        clear C z9
        go_wp2_with fail
        refine bodyPost_ret (v := Rx.hdr 0 (fun _ => false) none 0 0) (by simp [results, Try.results66, go_sem, Rx.hdr_none, e0, e1, e2, e3, e4, e5]) rfl ?_
        have R9 := HC.out.ret (big := big) (Rx.isB_nil _ _) HO.out (fun x9 t9 e9 => by
          obtain ⟨xs9, h1, h2⟩ := HAS.out x9 t9 e9
          have h3 : xs9 = [] := List.length_eq_zero_iff.1 h2.1.symm
          subst h3
          rw [h1]
          exact ⟨by rw [h2.2.1]; simp [Rx.catOf, Rx.may_nil], fun _ => rfl⟩)
        rw [Rx.wr_zero] at R9
        exact R9
      · have n0 : ((ys.length : Int) == 0) = false := by
          have := List.length_pos_iff.2 hy
          simp
          exact hy
        have HZ := Lib.hid (show ∀ x9 t9, (Rx.cat l).map (fun p => (Rx.catOf p.1, p.2)) = some (x9, t9) → (z || !(Rx.several 2 ys).may 1) = (big || !x9.may 1) ∧ (z = false → Rx.several 2 ys = x9) from fun x9 t9 e9 => by
          obtain ⟨xs9, h1, h2⟩ := HAS.out x9 t9 e9
          have hne : xs9 ≠ [] := fun h => hy (List.length_eq_zero_iff.1 (by rw [h2.1, h]; rfl))
          have hco : Rx.catOf xs9 = Rx.several 2 xs9 := by
            cases xs9 with
            | nil => exact absurd rfl hne
            | cons p q => rfl
          have hsv : z = false → Rx.several 2 ys = x9 := fun h => by rw [h1, hco, h2.2.2 h]
          exact ⟨Rx.flag h2.2.1 (fun h => Rx.all_may (x' := x9) (fun x hx hm => by rw [h1] at hm; exact Rx.may_catOf hm hx) h) hsv, hsv⟩)
        clear hy HAS
        obtain ⟨a9, c9, rfl, hin⟩ := C.own.slice
        have HIN := Lib.hid hin
        clear hin
        go_wp2_with fail
        refine (refSeveralB_any 2 (by decide) ys a9 c9 _ _ HIN.out).mono ?_
        rintro e w6 ⟨v6, rfl, hx, hb⟩
        replace C := C.up hb
        clear hb HIN
        obtain ⟨k6, f6, x6, n6, c6, rfl⟩ := hx.form
        have HX := Lib.hid hx
        have HK := Lib.hid (refCappedB_any r a L cap _ z (Rx.several 2 ys) _ w6 C.st hx.is)
        clear hx
        unfold Rx.hdr at HK ⊢
        go_wp2_with fail
        refine HK.out.mono ?_
        rintro e w7 ⟨v7, rfl, hv1, hv2, S7, G7⟩
        have hr7 := C.rq
        have HX7 := Lib.hid (HX.out.grown G7 (fun j hj e => by injection e; omega))
        replace C := C.on S7 G7
        clear HK S7 G7 HX
        cases hm : (Rx.several 2 ys).may 1
        · have e9 := hv2 hm
          rw [hm] at C
          have HMF := Lib.hid hm
          clear hv1 hv2 hm
          subst e9
          have e0 := C.nod.cell.c0; have e1 := C.nod.cell.c1; have e2 := C.nod.cell.c2; have e3 := C.nod.cell.c3; have e4 := C.nod.cell.c4; have e5 := C.nod.cell.c5
          have z9 := C.nod.frz
          simp only [Nat.zero_add] at e0 e1 e2 e3 e4 e5
          have z0 := z9 0 (by decide); have z1 := z9 1 (by decide); have z2 := z9 2 (by decide); have z3 := z9 3 (by decide); have z4 := z9 4 (by decide); have z5 := z9 5 (by decide)
          have HC := Lib.hid C
          clear C z9
          rw [Rx.hdr_none]
          go_wp2_with fail
          refine bodyPost_ret (v := Rx.hdr 0 (fun _ => false) none 0 0) (by simp [results, Try.results66, go_sem, Rx.hdr_none, e0, e1, e2, e3, e4, e5]) rfl ?_
          have R9 := HC.out.ret (big := big) (Rx.isB_nil _ _) HO.out (fun x9 t9 e9 => ⟨by rw [← HMF.out]; exact (HZ.out x9 t9 e9).1, fun h => by simp at h⟩)
          rw [Rx.wr_zero] at R9
          exact R9
        · have e9 := hv1 hm
          rw [hm] at C
          have HMF := Lib.hid hm
          clear hv1 hv2 hm
          subst e9
          have e0 := C.nod.cell.c0; have e1 := C.nod.cell.c1; have e2 := C.nod.cell.c2; have e3 := C.nod.cell.c3; have e4 := C.nod.cell.c4; have e5 := C.nod.cell.c5
          have z9 := C.nod.frz
          simp only [Nat.zero_add] at e0 e1 e2 e3 e4 e5
          have z0 := z9 0 (by decide); have z1 := z9 1 (by decide); have z2 := z9 2 (by decide); have z3 := z9 3 (by decide); have z4 := z9 4 (by decide); have z5 := z9 5 (by decide)
          have HC := Lib.hid C
          clear C z9
          go_wp2_with fail
          refine bodyPost_ret (v := Rx.hdr k6 f6 x6 n6 c6) (by simp [results, Try.results66, go_sem, Rx.hdr, e0, e1, e2, e3, e4, e5]) rfl ?_
          exact HC.out.ret (big := big) HX7.out HO.out (fun x9 t9 e9 => ⟨by rw [← HMF.out]; exact (HZ.out x9 t9 e9).1, fun h => (HZ.out x9 t9 e9).2 (by simpa using h)⟩)
    · have g0 : decide (0 ≤ cc) = true := decide_eq_true (by omega)
      have g1 : decide (cc ≥ 0) = true := decide_eq_true (by omega)
      obtain ⟨q, u, rfl, hq⟩ : ∃ q u, t = some (q :: u) ∧ q = cc := by
        cases t with
        | none => simp [Rx.hd] at hcc; omega
        | some u =>
          cases u with
          | nil => simp [Rx.hd] at hcc; omega
          | cons q u => exact ⟨q, u, rfl, hcc⟩
      subst hq
      by_cases h124 : q = 124
      · subst h124
        have HT := Lib.hid (hcut.out (fun u' e => Rx.cat_stop (by injection e with e; subst e; exact .inl (.inr rfl))))
        have HSE := Lib.hid (refSee_any r a L cap (some (124 :: u)) z _ C.st)
        have ehd : Rx.hd (some (124 :: u)) = 124 := rfl
        rw [ehd] at HSE
        clear ehd
        go_wp2_with fail
        refine HSE.out.mono ?_
        rintro e w1 ⟨rfl, q1, hq1⟩
        replace C := C.up (Rx.see_below hq1)
        clear hq1 HSE
        have HSE := Lib.hid (refSee_any r a L cap (some (124 :: u)) z _ C.st)
        have ehd : Rx.hd (some (124 :: u)) = 124 := rfl
        rw [ehd] at HSE
        clear ehd
        go_wp2_with fail
        refine HSE.out.mono ?_
        rintro e w3 ⟨rfl, q1, hq1⟩
        replace C := C.up (Rx.see_below hq1)
        clear hq1 HSE
        clear hcut HI HCW
        have HAS := Lib.hid HT.out.2
        have HO := Lib.hid (show (((Rx.cat l).map fun p => (Rx.catOf p.1, p.2)).map (·.2)) = some (124 :: u) from by rw [HT.out.1])
        by_cases hy : ys = []
        · subst hy
          have e9 := C.own.2 rfl
          subst e9
          have e0 := C.nod.cell.c0; have e1 := C.nod.cell.c1; have e2 := C.nod.cell.c2; have e3 := C.nod.cell.c3; have e4 := C.nod.cell.c4; have e5 := C.nod.cell.c5
          have z9 := C.nod.frz
          simp only [Nat.zero_add] at e0 e1 e2 e3 e4 e5
          have z0 := z9 0 (by decide); have z1 := z9 1 (by decide); have z2 := z9 2 (by decide); have z3 := z9 3 (by decide); have z4 := z9 4 (by decide); have z5 := z9 5 (by decide)
          have HC := Lib.hid C
          clear C z9
          go_wp2_with fail
          refine bodyPost_ret (v := Rx.hdr 0 (fun _ => false) none 0 0) (by simp [results, Try.results66, go_sem, Rx.hdr_none, e0, e1, e2, e3, e4, e5]) rfl ?_
          have R9 := HC.out.ret (big := big) (Rx.isB_nil _ _) HO.out (fun x9 t9 e9 => by
            obtain ⟨xs9, h1, h2⟩ := HAS.out x9 t9 e9
            have h3 : xs9 = [] := List.length_eq_zero_iff.1 h2.1.symm
            subst h3
            rw [h1]
            exact ⟨by rw [h2.2.1]; simp [Rx.catOf, Rx.may_nil], fun _ => rfl⟩)
          rw [Rx.wr_zero] at R9
          exact R9
        · have n0 : ((ys.length : Int) == 0) = false := by
            have := List.length_pos_iff.2 hy
            simp
            exact hy
          have HZ := Lib.hid (show ∀ x9 t9, (Rx.cat l).map (fun p => (Rx.catOf p.1, p.2)) = some (x9, t9) → (z || !(Rx.several 2 ys).may 1) = (big || !x9.may 1) ∧ (z = false → Rx.several 2 ys = x9) from fun x9 t9 e9 => by
            obtain ⟨xs9, h1, h2⟩ := HAS.out x9 t9 e9
            have hne : xs9 ≠ [] := fun h => hy (List.length_eq_zero_iff.1 (by rw [h2.1, h]; rfl))
            have hco : Rx.catOf xs9 = Rx.several 2 xs9 := by
              cases xs9 with
              | nil => exact absurd rfl hne
              | cons p q => rfl
            have hsv : z = false → Rx.several 2 ys = x9 := fun h => by rw [h1, hco, h2.2.2 h]
            exact ⟨Rx.flag h2.2.1 (fun h => Rx.all_may (x' := x9) (fun x hx hm => by rw [h1] at hm; exact Rx.may_catOf hm hx) h) hsv, hsv⟩)
          clear hy HAS
          obtain ⟨a9, c9, rfl, hin⟩ := C.own.slice
          have HIN := Lib.hid hin
          clear hin
          go_wp2_with fail
          refine (refSeveralB_any 2 (by decide) ys a9 c9 _ _ HIN.out).mono ?_
          rintro e w6 ⟨v6, rfl, hx, hb⟩
          replace C := C.up hb
          clear hb HIN
          obtain ⟨k6, f6, x6, n6, c6, rfl⟩ := hx.form
          have HX := Lib.hid hx
          have HK := Lib.hid (refCappedB_any r a L cap _ z (Rx.several 2 ys) _ w6 C.st hx.is)
          clear hx
          unfold Rx.hdr at HK ⊢
          go_wp2_with fail
          refine HK.out.mono ?_
          rintro e w7 ⟨v7, rfl, hv1, hv2, S7, G7⟩
          have hr7 := C.rq
          have HX7 := Lib.hid (HX.out.grown G7 (fun j hj e => by injection e; omega))
          replace C := C.on S7 G7
          clear HK S7 G7 HX
          cases hm : (Rx.several 2 ys).may 1
          · have e9 := hv2 hm
            rw [hm] at C
            have HMF := Lib.hid hm
            clear hv1 hv2 hm
            subst e9
            have e0 := C.nod.cell.c0; have e1 := C.nod.cell.c1; have e2 := C.nod.cell.c2; have e3 := C.nod.cell.c3; have e4 := C.nod.cell.c4; have e5 := C.nod.cell.c5
            have z9 := C.nod.frz
            simp only [Nat.zero_add] at e0 e1 e2 e3 e4 e5
            have z0 := z9 0 (by decide); have z1 := z9 1 (by decide); have z2 := z9 2 (by decide); have z3 := z9 3 (by decide); have z4 := z9 4 (by decide); have z5 := z9 5 (by decide)
            have HC := Lib.hid C
            clear C z9
            rw [Rx.hdr_none]
            go_wp2_with fail
            refine bodyPost_ret (v := Rx.hdr 0 (fun _ => false) none 0 0) (by simp [results, Try.results66, go_sem, Rx.hdr_none, e0, e1, e2, e3, e4, e5]) rfl ?_
            have R9 := HC.out.ret (big := big) (Rx.isB_nil _ _) HO.out (fun x9 t9 e9 => ⟨by rw [← HMF.out]; exact (HZ.out x9 t9 e9).1, fun h => by simp at h⟩)
            rw [Rx.wr_zero] at R9
            exact R9
          · have e9 := hv1 hm
            rw [hm] at C
            have HMF := Lib.hid hm
            clear hv1 hv2 hm
            subst e9
            have e0 := C.nod.cell.c0; have e1 := C.nod.cell.c1; have e2 := C.nod.cell.c2; have e3 := C.nod.cell.c3; have e4 := C.nod.cell.c4; have e5 := C.nod.cell.c5
            have z9 := C.nod.frz
            simp only [Nat.zero_add] at e0 e1 e2 e3 e4 e5
            have z0 := z9 0 (by decide); have z1 := z9 1 (by decide); have z2 := z9 2 (by decide); have z3 := z9 3 (by decide); have z4 := z9 4 (by decide); have z5 := z9 5 (by decide)
            have HC := Lib.hid C
            clear C z9
            go_wp2_with fail
            refine bodyPost_ret (v := Rx.hdr k6 f6 x6 n6 c6) (by simp [results, Try.results66, go_sem, Rx.hdr, e0, e1, e2, e3, e4, e5]) rfl ?_
            exact HC.out.ret (big := big) HX7.out HO.out (fun x9 t9 e9 => ⟨by rw [← HMF.out]; exact (HZ.out x9 t9 e9).1, fun h => (HZ.out x9 t9 e9).2 (by simpa using h)⟩)
      · have k1 : (q == 124) = false := by simp; omega
        have k2 : (q != 124) = true := by simp; omega
        by_cases h41 : q = 41
        · subst h41
          have HT := Lib.hid (hcut.out (fun u' e => Rx.cat_stop (by injection e with e; subst e; exact .inr rfl)))
          have HSE := Lib.hid (refSee_any r a L cap (some (41 :: u)) z _ C.st)
          have ehd : Rx.hd (some (41 :: u)) = 41 := rfl
          rw [ehd] at HSE
          clear ehd
          go_wp2_with fail
          refine HSE.out.mono ?_
          rintro e w1 ⟨rfl, q1, hq1⟩
          replace C := C.up (Rx.see_below hq1)
          clear hq1 HSE
          have HSE := Lib.hid (refSee_any r a L cap (some (41 :: u)) z _ C.st)
          have ehd : Rx.hd (some (41 :: u)) = 41 := rfl
          rw [ehd] at HSE
          clear ehd
          go_wp2_with fail
          refine HSE.out.mono ?_
          rintro e w3 ⟨rfl, q1, hq1⟩
          replace C := C.up (Rx.see_below hq1)
          clear hq1 HSE
          have HSE := Lib.hid (refSee_any r a L cap (some (41 :: u)) z _ C.st)
          have ehd : Rx.hd (some (41 :: u)) = 41 := rfl
          rw [ehd] at HSE
          clear ehd
          go_wp2_with fail
          refine HSE.out.mono ?_
          rintro e w4 ⟨rfl, q1, hq1⟩
          replace C := C.up (Rx.see_below hq1)
          clear hq1 HSE
          clear hcut HI HCW
          have HAS := Lib.hid HT.out.2
          have HO := Lib.hid (show (((Rx.cat l).map fun p => (Rx.catOf p.1, p.2)).map (·.2)) = some (41 :: u) from by rw [HT.out.1])
          by_cases hy : ys = []
          · subst hy
            have e9 := C.own.2 rfl
            subst e9
            have e0 := C.nod.cell.c0; have e1 := C.nod.cell.c1; have e2 := C.nod.cell.c2; have e3 := C.nod.cell.c3; have e4 := C.nod.cell.c4; have e5 := C.nod.cell.c5
            have z9 := C.nod.frz
            simp only [Nat.zero_add] at e0 e1 e2 e3 e4 e5
            have z0 := z9 0 (by decide); have z1 := z9 1 (by decide); have z2 := z9 2 (by decide); have z3 := z9 3 (by decide); have z4 := z9 4 (by decide); have z5 := z9 5 (by decide)
            have HC := Lib.hid C
            clear C z9
            go_wp2_with fail
            refine bodyPost_ret (v := Rx.hdr 0 (fun _ => false) none 0 0) (by simp [results, Try.results66, go_sem, Rx.hdr_none, e0, e1, e2, e3, e4, e5]) rfl ?_
            have R9 := HC.out.ret (big := big) (Rx.isB_nil _ _) HO.out (fun x9 t9 e9 => by
              obtain ⟨xs9, h1, h2⟩ := HAS.out x9 t9 e9
              have h3 : xs9 = [] := List.length_eq_zero_iff.1 h2.1.symm
              subst h3
              rw [h1]
              exact ⟨by rw [h2.2.1]; simp [Rx.catOf, Rx.may_nil], fun _ => rfl⟩)
            rw [Rx.wr_zero] at R9
            exact R9
          · have n0 : ((ys.length : Int) == 0) = false := by
              have := List.length_pos_iff.2 hy
              simp
              exact hy
            have HZ := Lib.hid (show ∀ x9 t9, (Rx.cat l).map (fun p => (Rx.catOf p.1, p.2)) = some (x9, t9) → (z || !(Rx.several 2 ys).may 1) = (big || !x9.may 1) ∧ (z = false → Rx.several 2 ys = x9) from fun x9 t9 e9 => by
              obtain ⟨xs9, h1, h2⟩ := HAS.out x9 t9 e9
              have hne : xs9 ≠ [] := fun h => hy (List.length_eq_zero_iff.1 (by rw [h2.1, h]; rfl))
              have hco : Rx.catOf xs9 = Rx.several 2 xs9 := by
                cases xs9 with
                | nil => exact absurd rfl hne
                | cons p q => rfl
              have hsv : z = false → Rx.several 2 ys = x9 := fun h => by rw [h1, hco, h2.2.2 h]
              exact ⟨Rx.flag h2.2.1 (fun h => Rx.all_may (x' := x9) (fun x hx hm => by rw [h1] at hm; exact Rx.may_catOf hm hx) h) hsv, hsv⟩)
            clear hy HAS
            obtain ⟨a9, c9, rfl, hin⟩ := C.own.slice
            have HIN := Lib.hid hin
            clear hin
            go_wp2_with fail
            refine (refSeveralB_any 2 (by decide) ys a9 c9 _ _ HIN.out).mono ?_
            rintro e w6 ⟨v6, rfl, hx, hb⟩
            replace C := C.up hb
            clear hb HIN
            obtain ⟨k6, f6, x6, n6, c6, rfl⟩ := hx.form
            have HX := Lib.hid hx
            have HK := Lib.hid (refCappedB_any r a L cap _ z (Rx.several 2 ys) _ w6 C.st hx.is)
            clear hx
            unfold Rx.hdr at HK ⊢
            go_wp2_with fail
            refine HK.out.mono ?_
            rintro e w7 ⟨v7, rfl, hv1, hv2, S7, G7⟩
            have hr7 := C.rq
            have HX7 := Lib.hid (HX.out.grown G7 (fun j hj e => by injection e; omega))
            replace C := C.on S7 G7
            clear HK S7 G7 HX
            cases hm : (Rx.several 2 ys).may 1
            · have e9 := hv2 hm
              rw [hm] at C
              have HMF := Lib.hid hm
              clear hv1 hv2 hm
              subst e9
              have e0 := C.nod.cell.c0; have e1 := C.nod.cell.c1; have e2 := C.nod.cell.c2; have e3 := C.nod.cell.c3; have e4 := C.nod.cell.c4; have e5 := C.nod.cell.c5
              have z9 := C.nod.frz
              simp only [Nat.zero_add] at e0 e1 e2 e3 e4 e5
              have z0 := z9 0 (by decide); have z1 := z9 1 (by decide); have z2 := z9 2 (by decide); have z3 := z9 3 (by decide); have z4 := z9 4 (by decide); have z5 := z9 5 (by decide)
              have HC := Lib.hid C
              clear C z9
              rw [Rx.hdr_none]
              go_wp2_with fail
              refine bodyPost_ret (v := Rx.hdr 0 (fun _ => false) none 0 0) (by simp [results, Try.results66, go_sem, Rx.hdr_none, e0, e1, e2, e3, e4, e5]) rfl ?_
              have R9 := HC.out.ret (big := big) (Rx.isB_nil _ _) HO.out (fun x9 t9 e9 => ⟨by rw [← HMF.out]; exact (HZ.out x9 t9 e9).1, fun h => by simp at h⟩)
              rw [Rx.wr_zero] at R9
              exact R9
            · have e9 := hv1 hm
              rw [hm] at C
              have HMF := Lib.hid hm
              clear hv1 hv2 hm
              subst e9
              have e0 := C.nod.cell.c0; have e1 := C.nod.cell.c1; have e2 := C.nod.cell.c2; have e3 := C.nod.cell.c3; have e4 := C.nod.cell.c4; have e5 := C.nod.cell.c5
              have z9 := C.nod.frz
              simp only [Nat.zero_add] at e0 e1 e2 e3 e4 e5
              have z0 := z9 0 (by decide); have z1 := z9 1 (by decide); have z2 := z9 2 (by decide); have z3 := z9 3 (by decide); have z4 := z9 4 (by decide); have z5 := z9 5 (by decide)
              have HC := Lib.hid C
              clear C z9
              go_wp2_with fail
              refine bodyPost_ret (v := Rx.hdr k6 f6 x6 n6 c6) (by simp [results, Try.results66, go_sem, Rx.hdr, e0, e1, e2, e3, e4, e5]) rfl ?_
              exact HC.out.ret (big := big) HX7.out HO.out (fun x9 t9 e9 => ⟨by rw [← HMF.out]; exact (HZ.out x9 t9 e9).1, fun h => (HZ.out x9 t9 e9).2 (by simpa using h)⟩)
        · have k3 : (q == 41) = false := by simp; omega
          have k4 : (q != 41) = true := by simp; omega
          have HSE := Lib.hid (refSee_any r a L cap (some (q :: u)) z _ C.st)
          have ehd : Rx.hd (some (q :: u)) = q := rfl
          rw [ehd] at HSE
          clear ehd
          go_wp2_with fail
          refine HSE.out.mono ?_
          rintro e w1 ⟨rfl, q1, hq1⟩
          replace C := C.up (Rx.see_below hq1)
          clear hq1 HSE
          have HSE := Lib.hid (refSee_any r a L cap (some (q :: u)) z _ C.st)
          have ehd : Rx.hd (some (q :: u)) = q := rfl
          rw [ehd] at HSE
          clear ehd
          go_wp2_with fail
          refine HSE.out.mono ?_
          rintro e w3 ⟨rfl, q1, hq1⟩
          replace C := C.up (Rx.see_below hq1)
          clear hq1 HSE
          have HSE := Lib.hid (refSee_any r a L cap (some (q :: u)) z _ C.st)
          have ehd : Rx.hd (some (q :: u)) = q := rfl
          rw [ehd] at HSE
          clear ehd
          go_wp2_with fail
          refine HSE.out.mono ?_
          rintro e w4 ⟨rfl, q1, hq1⟩
          replace C := C.up (Rx.see_below hq1)
          clear hq1 HSE
          have hgo : ¬ ((((q :: u).head? : Option Int) = none ∨ (q :: u).head? = some 124) ∨ (q :: u).head? = some 41) := by simp [h124, h41]
          have HGO := Lib.hid hgo
          have HI2 := Lib.hid (HI.out.2 (q :: u) rfl)
          have hl1 := HI2.out.1
          have hl2 := HI2.out.2.1
          simp only [List.length_cons] at hl1 hl2
          have HRC := Lib.hid (hR q u hl1 r a L cap z _ C.st)
          clear hcut hgo h124 h41 hneg hcc HI
          go_wp2_with fail
          clear g0 g1 k1 k2 k3 k4
          refine HRC.out.mono ?_
          rintro e w5 ⟨v5, y, z', rfl, hx, g5, S5, hz⟩
          have hsl := fun k (hk : u3.ownBlock = some k) => (C.own.lt k hk).2
          have hsz5 := g5.size
          have hbase : w.heap.size + 1 ≤ w4.heap.size := by have := C.nod.lt; omega
          replace C := C.on S5 g5
          obtain ⟨k5, f5, x5, n5, c5, rfl⟩ := hx.form
          have HXL := Lib.hid (hx.lt)
          have HZ5 := Lib.hid hz
          clear HRC S5 g5 hz hx
          have B6 := Bs.below1 w5 (.cells #[.int .u8 k5, .int .u64 (Bs.word f5 0), .int .u64 (Bs.word f5 1), .int .u64 (Bs.word f5 2), .int .u64 (Bs.word f5 3), .slice x5 n5 c5] 28)
          have hB := heap_alloc_new w5 (.cells #[.int .u8 k5, .int .u64 (Bs.word f5 0), .int .u64 (Bs.word f5 1), .int .u64 (Bs.word f5 2), .int .u64 (Bs.word f5 3), .slice x5 n5 c5] 28)
          have hy6 : Rx.IsB (w5.alloc (.cells #[.int .u8 k5, .int .u64 (Bs.word f5 0), .int .u64 (Bs.word f5 1), .int .u64 (Bs.word f5 2), .int .u64 (Bs.word f5 3), .slice x5 n5 c5] 28)) (fun k => w.heap.size + 1 ≤ k ∧ some k ≠ u3.ownBlock) y (Rx.hdr k5 f5 x5 n5 c5) := (HXL.out.mono (fun k hk => ⟨by omega, fun e => by have := hsl k e.symm; omega⟩)).up B6
          have C6 := C.up B6
          have hln6 : ys.length ≤ 100000 := by omega
          have hbase6 := Nat.le_trans (Nat.le_trans hbase hsz5) B6.size
          have hu3 : ∃ a9 n9 c9, u3 = .slice a9 n9 c9 := by obtain ⟨a9, c9, h9, _⟩ := C.own.slice; exact ⟨_, _, _, h9⟩
          obtain ⟨a3, n3, c3, rfl⟩ := hu3
          have HC6 := Lib.hid C6
          have HY6 := Lib.hid hy6
          clear C C6 B6 HXL hsl hy6
          unfold Rx.hdr
          go_wp2_with (first | (at_builtin; refine Rx.append rfl _ _ rfl (w.heap.size + 1) _ ys rfl HC6.out.own w5.heap.size 1 rfl k5 f5 x5 n5 c5 hB y HY6.out hln6 hbase6 ?_; intro v7 w7 O7 g7))
          have C7 := HC6.out.app O7 g7
          have hv7 : ∃ a9 n9 c9, v7 = .slice a9 n9 c9 := by obtain ⟨a9, c9, h9, _⟩ := O7.slice; exact ⟨_, _, _, h9⟩
          obtain ⟨a7, n7, c7, rfl⟩ := hv7
          have HC7 := Lib.hid C7
          clear C7 O7 g7 HC6 HY6 hB
          go_wp2_with fail
          have HRL := Lib.hid (show ∀ x t', Rx.rep (q :: u) = some (x, t') → t'.length < (q :: u).length from fun x t' e => Rx.rep_len e)
          go_roundw
          case rel =>
            refine ⟨_, z', ys ++ [y], HC7.out, Lib.hid ⟨fun e => ?_, fun u' e => ?_⟩⟩
            · have hrn : Rx.rep (q :: u) = none := by
                cases hrr : Rx.rep (q :: u) with
                | none => rfl
                | some p => rw [hrr] at e; simp at e
              obtain ⟨xs, h3, _⟩ := HI2.out.2.2
              rw [h3, Rx.cat_bad HGO.out hrn]
              rfl
            · obtain ⟨x, hrs⟩ : ∃ x, Rx.rep (q :: u) = some (x, u') := by
                cases hrr : Rx.rep (q :: u) with
                | none => rw [hrr] at e; simp at e
                | some p => obtain ⟨x, t'⟩ := p; rw [hrr] at e; simp at e; exact ⟨x, by rw [e]⟩
              have hrl := HRL.out x u' hrs
              simp only [List.length_cons] at hrl
              obtain ⟨xs, h3, h4⟩ := HI2.out.2.2
              obtain ⟨h5, h6⟩ := HZ5.out x u' hrs
              refine ⟨by omega, by simp only [List.length_append, List.length_cons, List.length_nil]; omega, xs ++ [x], ?_, Rx.asRead_snoc h4 h5 h6⟩
              rw [h3, Rx.cat_go HGO.out hrs, Option.map_map]
              congr 1
              funext p
              simp
          case measure =>
            have m2 := Rx.left_some HCW.out.st
            rw [m2]
            have hst7 := HC7.out.st
            cases hrr : Rx.rep (q :: u) with
            | none =>
              rw [hrr] at hst7
              rw [Rx.left_none hst7]
              omega
            | some p =>
              obtain ⟨x, t'⟩ := p
              have hrl := HRL.out x t' hrr
              rw [hrr] at hst7
              rw [Rx.left_some (u := t') hst7]
              omega
set_option maxRecDepth 100000 in
set_option maxHeartbeats 8000000 in
theorem refAlt_of (l : List Int) (hC : ∀ l', l'.length ≤ l.length → Rx.CatC l') : Rx.AltC l := by
  intro r a L cap big w h
  have hr : r < w.heap.size := by obtain ⟨i, b, R⟩ := h.bad; exact R.lt
  have hho := Lib.hid h.home
  have N := Rx.nod_zero w
  have B0 := Bs.below1 w (.cells #[.int .u8 0, .int .u64 0, .int .u64 0, .int .u64 0, .int .u64 0, .slice none 0 0] 28)
  have C : Rx.LW w r a L cap (some l) big (.slice none 0 0) [] (w.alloc (.cells #[.int .u8 0, .int .u64 0, .int .u64 0, .int .u64 0, .int .u64 0, .slice none 0 0] 28)) := ⟨h.up B0, N, Rx.own_nil _ _, Rx.grown_of r B0, hr, hho.out⟩
  have hln := h.ln
  have hUs : w.heap.size + 1 ≤ (w.alloc (.cells #[.int .u8 0, .int .u64 0, .int .u64 0, .int .u64 0, .int .u64 0, .slice none 0 0] 28)).heap.size := by simp [go_sem]
  clear N B0 h hho hr
  go_enter Try.func40, Try.ntmps40
  go_wp2_with fail
  generalize w.alloc (.cells #[.int .u8 0, .int .u64 0, .int .u64 0, .int .u64 0, .int .u64 0, .slice none 0 0] 28) = U at *
  have HCC := Lib.hid (hC l (Nat.le_refl _) r a L cap big U C.st)
  refine HCC.out.mono ?_
  rintro e w5 ⟨v5, y, z, rfl, hx, g5, S5, hz⟩
  have hsz5 := g5.size
  replace C := C.on S5 g5
  obtain ⟨k5, f5, x5, n5, c5, rfl⟩ := hx.form
  have hx' : Rx.IsB w5 (w.heap.size + 1 ≤ ·) y (Rx.hdr k5 f5 x5 n5 c5) := hx.mono (fun j hj => by omega)
  have O1 := Rx.own_one hx' (by omega)
  have B6 := Bs.below1 w5 (.cells #[.int .u8 k5, .int .u64 (Bs.word f5 0), .int .u64 (Bs.word f5 1), .int .u64 (Bs.word f5 2), .int .u64 (Bs.word f5 3), .slice x5 n5 c5] 28)
  have C6 := C.up B6
  have C1 : Rx.LW w r a L cap _ z _ [y] _ := ⟨C6.st, C6.nod, O1, C6.gr, C6.rq, C6.ho⟩
  have HZ5 := Lib.hid hz
  have H0 : Hid ((((Rx.cat l).map fun p => (Rx.catOf p.1, p.2)).map (·.2) = none → Rx.alt l = none) ∧ ∀ u, ((Rx.cat l).map fun p => (Rx.catOf p.1, p.2)).map (·.2) = some u → u.length ≤ l.length ∧ [y].length + u.length ≤ 1001 ∧ ∃ xs, Rx.alt l = (Rx.altT u).map (fun p => (xs ++ p.1, p.2)) ∧ Rx.AsRead big z xs [y]) := Lib.hid (by
    cases hc : Rx.cat l with
    | none => exact ⟨fun _ => by rw [Rx.alt_cat, hc], fun u e => by simp at e⟩
    | some p =>
      obtain ⟨xs, u⟩ := p
      refine ⟨fun e => by simp at e, fun u' e => ?_⟩
      simp at e
      subst e
      have h1 := Rx.cat_len hc
      obtain ⟨h2, h3⟩ := HZ5.out (Rx.catOf xs) u (by rw [hc]; rfl)
      refine ⟨h1, by simp; omega, [Rx.catOf xs], by rw [Rx.alt_cat, hc]; rfl, ?_⟩
      exact Rx.asRead_snoc (Rx.asRead_nil big) h2 h3)
  generalize ((Rx.cat l).map fun p => (Rx.catOf p.1, p.2)).map (·.2) = t0 at *
  have HC1 := Lib.hid C1
  clear C C6 C1 B6 O1 hx hx' hz HZ5 S5 g5 HCC
  unfold Rx.hdr
  go_wp2_with fail
  go_loopw [3] (fun v wr => ∃ t z ys, Rx.LW w r a L cap t z v ys wr ∧ Hid ((t = none → Rx.alt l = none) ∧ ∀ u, t = some u → u.length ≤ l.length ∧ ys.length + u.length ≤ 1001 ∧ ∃ xs, Rx.alt l = (Rx.altT u).map (fun p => (xs ++ p.1, p.2)) ∧ Rx.AsRead big z xs ys)) (fun _ wr => Rx.left wr r L.length)
  case atStart => exact ⟨t0, z, [y], HC1.out, H0⟩
  case round =>
    clear HC1 H0
    obtain ⟨t, z, ys, C, HI⟩ := hrel
    have HCW := Lib.hid C
    obtain ⟨cc, hcc⟩ : ∃ cc, Rx.hd t = cc := ⟨_, rfl⟩
    have HSE := Lib.hid (refSee_any r a L cap t z _ C.st)
    rw [hcc] at HSE
    go_wp2_with fail
    refine HSE.out.mono ?_
    rintro e w1 ⟨rfl, q1, hq1⟩
    replace C := C.up (Rx.see_below hq1)
    clear hq1 HSE
    by_cases h124 : cc = 124
    · subst h124
      obtain ⟨u, rfl⟩ : ∃ u, t = some (124 :: u) := by
        cases t with
        | none => simp [Rx.hd] at hcc
        | some u =>
          cases u with
          | nil => simp [Rx.hd] at hcc
          | cons q u => simp only [Rx.hd] at hcc; exact ⟨u, by rw [hcc]⟩
      clear hcc
      have HTK := Lib.hid (refTake_any r a L cap (some (124 :: u)) z _ C.st)
      go_wp2_with fail
      refine HTK.out.mono ?_
      rintro e w2 ⟨rfl, S2, G2⟩
      replace C : Rx.LW w r a L cap (some u) z _ ys w2 := C.on S2 G2
      clear HTK S2 G2
      have HI2 := Lib.hid (HI.out.2 (124 :: u) rfl)
      have hl1 := HI2.out.1
      have hl2 := HI2.out.2.1
      simp only [List.length_cons] at hl1 hl2
      have HCC := Lib.hid (hC u (by omega) r a L cap z w2 C.st)
      clear HI
      go_wp2_with fail
      refine HCC.out.mono ?_
      rintro e w5 ⟨v5, y, z', rfl, hx, g5, S5, hz⟩
      have hsl := fun k (hk : u3.ownBlock = some k) => (C.own.lt k hk).2
      have hsz5 := g5.size
      have hbase : w.heap.size + 1 ≤ w2.heap.size := by have := C.nod.lt; omega
      replace C := C.on S5 g5
      obtain ⟨k5, f5, x5, n5, c5, rfl⟩ := hx.form
      have HXL := Lib.hid (hx.lt)
      have HZ5 := Lib.hid hz
      clear HCC S5 g5 hz hx
      have B6 := Bs.below1 w5 (.cells #[.int .u8 k5, .int .u64 (Bs.word f5 0), .int .u64 (Bs.word f5 1), .int .u64 (Bs.word f5 2), .int .u64 (Bs.word f5 3), .slice x5 n5 c5] 28)
      have hB := heap_alloc_new w5 (.cells #[.int .u8 k5, .int .u64 (Bs.word f5 0), .int .u64 (Bs.word f5 1), .int .u64 (Bs.word f5 2), .int .u64 (Bs.word f5 3), .slice x5 n5 c5] 28)
      have hy6 : Rx.IsB (w5.alloc (.cells #[.int .u8 k5, .int .u64 (Bs.word f5 0), .int .u64 (Bs.word f5 1), .int .u64 (Bs.word f5 2), .int .u64 (Bs.word f5 3), .slice x5 n5 c5] 28)) (fun k => w.heap.size + 1 ≤ k ∧ some k ≠ u3.ownBlock) y (Rx.hdr k5 f5 x5 n5 c5) := (HXL.out.mono (fun k hk => ⟨by omega, fun e => by have := hsl k e.symm; omega⟩)).up B6
      have C6 := C.up B6
      have hln6 : ys.length ≤ 100000 := by omega
      have hbase6 := Nat.le_trans (Nat.le_trans hbase hsz5) B6.size
      have hu3 : ∃ a9 n9 c9, u3 = .slice a9 n9 c9 := by obtain ⟨a9, c9, h9, _⟩ := C.own.slice; exact ⟨_, _, _, h9⟩
      obtain ⟨a3, n3, c3, rfl⟩ := hu3
      have HC6 := Lib.hid C6
      have HY6 := Lib.hid hy6
      clear C C6 B6 HXL hsl hy6
      unfold Rx.hdr
      go_wp2_with (first | (at_builtin; refine Rx.append rfl _ _ rfl (w.heap.size + 1) _ ys rfl HC6.out.own w5.heap.size 1 rfl k5 f5 x5 n5 c5 hB y HY6.out hln6 hbase6 ?_; intro v7 w7 O7 g7))
      have C7 := HC6.out.app O7 g7
      have hv7 : ∃ a9 n9 c9, v7 = .slice a9 n9 c9 := by obtain ⟨a9, c9, h9, _⟩ := O7.slice; exact ⟨_, _, _, h9⟩
      obtain ⟨a7, n7, c7, rfl⟩ := hv7
      have HC7 := Lib.hid C7
      clear C7 O7 g7 HC6 HY6 hB
      go_wp2_with fail
      go_roundw
      case rel =>
        refine ⟨_, z', ys ++ [y], HC7.out, Lib.hid ⟨fun e => ?_, fun u' e => ?_⟩⟩
        · obtain ⟨xs, h3, _⟩ := HI2.out.2.2
          have hrn : Rx.cat u = none := by
            cases hrr : Rx.cat u with
            | none => rfl
            | some p => rw [hrr] at e; simp at e
          rw [h3, Rx.altT, if_pos (show (124 :: u).head? = some 124 from rfl)]
          show Option.map _ (Rx.alt u) = none
          rw [Rx.alt_cat, hrn]
          rfl
        · obtain ⟨xs1, hrs⟩ : ∃ xs1, Rx.cat u = some (xs1, u') := by
            cases hrr : Rx.cat u with
            | none => rw [hrr] at e; simp at e
            | some p => obtain ⟨x, t'⟩ := p; rw [hrr] at e; simp at e; exact ⟨x, by rw [e]⟩
          have hrl := Rx.cat_len hrs
          obtain ⟨xs, h3, h4⟩ := HI2.out.2.2
          obtain ⟨h5, h6⟩ := HZ5.out (Rx.catOf xs1) u' (by rw [hrs]; rfl)
          refine ⟨by omega, by simp only [List.length_append, List.length_cons, List.length_nil]; omega, xs ++ [Rx.catOf xs1], ?_, Rx.asRead_snoc h4 h5 h6⟩
          rw [h3, Rx.altT, if_pos (show (124 :: u).head? = some 124 from rfl)]
          show Option.map _ (Rx.alt u) = _
          rw [Rx.alt_cat, hrs]
          simp only [Option.map_map]
          congr 1
          funext p
          simp
      case measure =>
        have m2 := Rx.left_some HCW.out.st
        rw [m2]
        have hst7 := HC7.out.st
        cases hrr : Rx.cat u with
        | none =>
          rw [hrr] at hst7
          rw [Rx.left_none hst7]
          omega
        | some p =>
          obtain ⟨x, t'⟩ := p
          have hrl := Rx.cat_len hrr
          rw [hrr] at hst7
          rw [Rx.left_some (u := t') hst7]
          simp
          omega
    · have k1 : (cc == 124) = false := by simp; omega
      have HT : Hid (((Rx.alt l).map fun p => (Rx.several 3 p.1, p.2)).map (·.2) = t ∧ ∀ x9 t9, (Rx.alt l).map (fun p => (Rx.several 3 p.1, p.2)) = some (x9, t9) → ∃ xs9, x9 = Rx.several 3 xs9 ∧ Rx.AsRead big z xs9 ys) := Lib.hid (by
        obtain ⟨h1, h2⟩ := HI.out
        cases t with
        | none => rw [h1 rfl]; exact ⟨rfl, fun x9 t9 e9 => by simp at e9⟩
        | some u =>
          obtain ⟨_, _, xs, h3, h4⟩ := h2 u rfl
          have hst : Rx.altT u = some ([], u) := by
            rw [Rx.altT, if_neg]
            intro h
            exact h124 (by rw [← hcc]; exact (Rx.hd_iff (by decide)).2 h)
          rw [h3, hst]
          refine ⟨rfl, fun x9 t9 e9 => ⟨xs, ?_, h4⟩⟩
          simp at e9
          exact e9.1.symm)
      have HO := Lib.hid HT.out.1
      have HZ := Lib.hid (show ∀ x9 t9, (Rx.alt l).map (fun p => (Rx.several 3 p.1, p.2)) = some (x9, t9) → (z || !(Rx.several 3 ys).may 1) = (big || !x9.may 1) ∧ (z = false → Rx.several 3 ys = x9) from fun x9 t9 e9 => by
        obtain ⟨xs9, h1, h2⟩ := HT.out.2 x9 t9 e9
        have hsv : z = false → Rx.several 3 ys = x9 := fun h => by rw [h1, h2.2.2 h]
        exact ⟨Rx.flag h2.2.1 (fun h => Rx.all_may (x' := x9) (fun x hx hm => by rw [h1] at hm; exact Rx.may_several hm hx) h) hsv, hsv⟩)
      clear HT HI HCW hcc h124
      obtain ⟨a9, c9, rfl, hin⟩ := C.own.slice
      have HIN := Lib.hid hin
      clear hin
      go_wp2_with fail
      refine (refSeveralB_any 3 (by decide) ys a9 c9 _ _ HIN.out).mono ?_
      rintro e w6 ⟨v6, rfl, hx, hb⟩
      replace C := C.up hb
      clear hb HIN
      obtain ⟨k6, f6, x6, n6, c6, rfl⟩ := hx.form
      have HX := Lib.hid hx
      have HK := Lib.hid (refCappedB_any r a L cap _ z (Rx.several 3 ys) _ w6 C.st hx.is)
      clear hx
      unfold Rx.hdr at HK ⊢
      go_wp2_with fail
      refine HK.out.mono ?_
      rintro e w7 ⟨v7, rfl, hv1, hv2, S7, G7⟩
      have hr7 := C.rq
      have HX7 := Lib.hid (HX.out.grown G7 (fun j hj e => by injection e; omega))
      replace C := C.on S7 G7
      clear HK S7 G7 HX
      cases hm : (Rx.several 3 ys).may 1
      · have e9 := hv2 hm
        rw [hm] at C
        have HMF := Lib.hid hm
        clear hv1 hv2 hm
        subst e9
        have e0 := C.nod.cell.c0; have e1 := C.nod.cell.c1; have e2 := C.nod.cell.c2; have e3 := C.nod.cell.c3; have e4 := C.nod.cell.c4; have e5 := C.nod.cell.c5
        have z9 := C.nod.frz
        simp only [Nat.zero_add] at e0 e1 e2 e3 e4 e5
        have z0 := z9 0 (by decide); have z1 := z9 1 (by decide); have z2 := z9 2 (by decide); have z3 := z9 3 (by decide); have z4 := z9 4 (by decide); have z5 := z9 5 (by decide)
        have HC := Lib.hid C
        clear C z9
        rw [Rx.hdr_none]
        go_wp2_with fail
        refine bodyPost_ret (v := Rx.hdr 0 (fun _ => false) none 0 0) (by simp [results, Try.results40, go_sem, Rx.hdr_none, e0, e1, e2, e3, e4, e5]) rfl ?_
        have R9 := HC.out.ret (big := big) (Rx.isB_nil _ _) HO.out (fun x9 t9 e9 => ⟨by rw [← HMF.out]; exact (HZ.out x9 t9 e9).1, fun h => by simp at h⟩)
        rw [Rx.wr_zero] at R9
        exact R9
      · have e9 := hv1 hm
        rw [hm] at C
        have HMF := Lib.hid hm
        clear hv1 hv2 hm
        subst e9
        have e0 := C.nod.cell.c0; have e1 := C.nod.cell.c1; have e2 := C.nod.cell.c2; have e3 := C.nod.cell.c3; have e4 := C.nod.cell.c4; have e5 := C.nod.cell.c5
        have z9 := C.nod.frz
        simp only [Nat.zero_add] at e0 e1 e2 e3 e4 e5
        have z0 := z9 0 (by decide); have z1 := z9 1 (by decide); have z2 := z9 2 (by decide); have z3 := z9 3 (by decide); have z4 := z9 4 (by decide); have z5 := z9 5 (by decide)
        have HC := Lib.hid C
        clear C z9
        go_wp2_with fail
        refine bodyPost_ret (v := Rx.hdr k6 f6 x6 n6 c6) (by simp [results, Try.results40, go_sem, Rx.hdr, e0, e1, e2, e3, e4, e5]) rfl ?_
        exact HC.out.ret (big := big) HX7.out HO.out (fun x9 t9 e9 => ⟨by rw [← HMF.out]; exact (HZ.out x9 t9 e9).1, fun h => (HZ.out x9 t9 e9).2 (by simpa using h)⟩)
/-- the document's reading: one induction on what is left -/
theorem refAlt_any : ∀ (n : Nat) (l : List Int), l.length ≤ n → Rx.AltC l := by
  intro n
  induction n using Nat.strongRecOn with
  | _ n ih =>
    intro l hl
    refine refAlt_of l (fun l' hl' => refCat_of l' (fun c l2 hl2 => refRep_of c l2 (fun l3 hl3 => ?_)))
    exact ih l3.length (by omega) l3 (Nat.le_refl _)
open Go.RowKit
theorem Rn.first_pos {l : List UInt8} (h : 0 < (Rn.firstL l).2) : 0 ≤ (Rn.firstL l).1 := by
  cases l with
  | nil => simp [Rn.firstL] at h
  | cons c t =>
    rw [Rn.firstL_cons] at h ⊢
    split
    · rename_i h1; rw [if_pos h1] at h; simp at h
    · rename_i h1
      rw [if_neg h1] at h
      cases hd : Rn.dec (c.toNat - Rn.leadI (Rn.promI c.toNat)) (((c :: t).take (Rn.promI c.toNat).toNat).drop 1) with
      | none => rw [hd] at h; simp [Rn.fin] at h
      | some n =>
        rw [hd] at h
        simp only [Rn.fin] at h ⊢
        split
        · rename_i h2
          rw [if_pos h2] at h
          simp only at h ⊢
          rw [← h2] at h
          unfold Rn.sizeI at h
          repeat' split at h
          all_goals omega
        · rename_i h2
          rw [if_neg h2] at h
          simp at h
theorem Rx.infoInt : (Try.prog.info? 3).map (fun i => (i.zero, i.size, i.bytes)) = some (some (.int .i64 0), 1, 8) := by kernel_rfl
/-- the reader while its signs are laid -/
structure Rx.PW (w : World) (r : Nat) (v : Value) (ns : List Int) (u : World) : Prop where
  c0 : u.cell? ⟨r, 0, none⟩ = some v
  c1 : u.cell? ⟨r, 1, none⟩ = some (.int .i64 0)
  c2 : u.cell? ⟨r, 2, none⟩ = some (.bool false)
  c3 : u.cell? ⟨r, 3, none⟩ = some (.bool false)
  z0 : u.frozen? ⟨r, 0, none⟩ = false
  z1 : u.frozen? ⟨r, 1, none⟩ = false
  z2 : u.frozen? ⟨r, 2, none⟩ = false
  z3 : u.frozen? ⟨r, 3, none⟩ = false
  only : ∀ j v, u.cell? ⟨r, j, none⟩ = some v → j < 4
  own : u.ownsRow (r + 1) 3 1 v ns.length (ns.map (Value.int .i64))
  nod : Rx.Nod u w.heap.size 0 (fun _ => false) none 0 0
  bel : Below w.heap.size w u
  qr : w.heap.size < r
theorem Rx.PW.lt {w : World} {r : Nat} {v : Value} {ns : List Int} {u : World} (h : Rx.PW w r v ns u) : r < u.heap.size := World.block_lt_of_cell? u _ h.c0
/-- a text's length -/
def Px.lenS : Value → Nat
  | .string t => t.size
  | _ => 0
theorem Rx.PW.up {w : World} {r : Nat} {v : Value} {ns : List Int} {u u' : World} (h : Rx.PW w r v ns u) (hb : Below u.heap.size u u') : Rx.PW w r v ns u' := by
  have hl := h.lt
  exact ⟨Bs.cell_up hb h.c0, Bs.cell_up hb h.c1, Bs.cell_up hb h.c2, Bs.cell_up hb h.c3, by rw [hb.frozen hl]; exact h.z0, by rw [hb.frozen hl]; exact h.z1, by rw [hb.frozen hl]; exact h.z2, by rw [hb.frozen hl]; exact h.z3, fun j v hv => h.only j v (by rw [← hb.cell (p := ⟨r, j, none⟩) hl]; exact hv), Bs.row_up h.own hb, h.nod.up hb, Bs.below_up h.bel hb, h.qr⟩
theorem Rx.PW.mid {w : World} {r : Nat} {v : Value} {ns : List Int} {u u' : World} (h : Rx.PW w r v ns u) (g : u.grownBy u' v.ownBlock) : u'.cell? ⟨r, 0, none⟩ = some v ∧ u'.frozen? ⟨r, 0, none⟩ = false := by
  have hk : ∀ k, v.ownBlock = some k → r + 1 ≤ k := fun k hk => (h.own.lt k hk).1
  have hb : Below (r + 1) u u' := (Below.refl _ _).grown g h.lt hk
  exact ⟨by rw [hb.cell (p := ⟨r, 0, none⟩) (Nat.lt_succ_self r)]; exact h.c0, by rw [hb.frozen (p := ⟨r, 0, none⟩) (Nat.lt_succ_self r)]; exact h.z0⟩
theorem Rx.row_form {u : World} {b : Nat} {t : TypeId} {v : Value} {n : Nat} {cs : List Value} (h : u.ownsRow b t 1 v n cs) : ∃ a m c, v = .slice a m c := by
  rcases h.2 with ⟨h0, _⟩ | ⟨g, cap, cur, e, _⟩
  · exact ⟨_, _, _, h0⟩
  · exact ⟨_, _, _, e⟩
theorem Rx.PW.step {w : World} {r : Nat} {v v' : Value} {ns : List Int} {n : Int} {u u' : World} (h : Rx.PW w r v ns u) (o : u'.ownsRow (r + 1) 3 1 v' (ns.length + 1) (ns.map (Value.int .i64) ++ [.int .i64 n])) (g : u.grownBy u' v.ownBlock) : Rx.PW w r v' (ns ++ [n]) (u'.setCell ⟨r, 0, none⟩ v') := by
  have hk : ∀ k, v.ownBlock = some k → r + 1 ≤ k := fun k hk => (h.own.lt k hk).1
  have hs : r + 1 ≤ u.heap.size := h.lt
  have hb : Below (r + 1) u u' := (Below.refl _ _).grown g hs hk
  have hq := h.qr
  have hc : ∀ j, u'.cell? ⟨r, j, none⟩ = u.cell? ⟨r, j, none⟩ := fun j => hb.cell (p := ⟨r, j, none⟩) (Nat.lt_succ_self r)
  have hz : ∀ j, u'.frozen? ⟨r, j, none⟩ = u.frozen? ⟨r, j, none⟩ := fun j => hb.frozen (p := ⟨r, j, none⟩) (Nat.lt_succ_self r)
  have gs : u'.grownBy (u'.setCell ⟨r, 0, none⟩ v') (some r) := Rx.grown_set (World.grownBy.refl _ _) _ _
  have d0 := hc 0; have d1 := hc 1; have d2 := hc 2; have d3 := hc 3
  have y0 := hz 0; have y1 := hz 1; have y2 := hz 2; have y3 := hz 3
  rw [h.c0] at d0; rw [h.c1] at d1; rw [h.c2] at d2; rw [h.c3] at d3
  rw [h.z0] at y0; rw [h.z1] at y1; rw [h.z2] at y2; rw [h.z3] at y3
  refine ⟨by simp [go_sem, d0], by simp [go_sem, d1], by simp [go_sem, d2], by simp [go_sem, d3], by simp [go_sem, y0], by simp [go_sem, y1], by simp [go_sem, y2], by simp [go_sem, y3], Rx.only_set (fun j v hv => h.only j v (by rw [← hc j]; exact hv)) (by omega), ?_, ?_, ?_, hq⟩
  · have hne : v'.ownBlock = none ∨ v'.ownBlock ≠ some r := by
      cases hv : v'.ownBlock with
      | none => exact .inl rfl
      | some k => exact .inr (fun e => by injection e with e; have := (o.lt k hv).1; omega)
    have := o.kept gs hne
    simpa [List.length_append, List.map_append] using this
  · exact (h.nod.own g (fun j hj => by have := hk j hj; omega)).grown gs (by omega)
  · exact (h.bel.grown g h.bel.size (fun k hk' => by have := hk k hk'; omega)).setCell (by simp; omega) _
/-- the signs are laid: the reader is at its beginning -/
theorem Rx.PW.st {w : World} {r : Nat} {v : Value} {ns : List Int} {u : World} (h : Rx.PW w r v ns u) (hn : ∀ c ∈ ns, 0 ≤ c) (hl : ns.length ≤ 1000) : ∃ a cap, Rx.St u r a ns cap (some ns) false := by
  rcases h.own.2 with ⟨rfl, h0⟩ | ⟨g, cap, cur, rfl, hb, hcells⟩
  · have e : ns = [] := List.length_eq_zero_iff.1 h0
    subst e
    exact ⟨none, 0, 0, Nat.le_refl _, rfl, ⟨h.c0, h.c1, h.c2, h.c3, h.z1, h.z2, h.z3, fun i hi => by simp at hi, fun x e => by simp at e, hn, hl, h.only⟩⟩
  · refine ⟨some ⟨g, 0, none⟩, cap, 0, Nat.zero_le _, rfl, ⟨h.c0, h.c1, h.c2, h.c3, h.z1, h.z2, h.z3, fun i hi => ⟨_, rfl, ?_⟩, fun x e => by injection e with e; subst e; show g ≠ r; omega, hn, hl, h.only⟩⟩
    exact h.own.cells (g := g) rfl i (.int .i64 ns[i]) (by simp [hi])
set_option maxRecDepth 100000 in
set_option maxHeartbeats 8000000 in
theorem refParse_any (s : ByteArray) (hmax : s.size ≤ maxLen) (w : World) : Calls Try.prog 13 #[.string s] w (Px.PPost w s) := by
  have N := Rx.nod_zero w
  have A := Bs.below1 w (.cells #[.int .u8 0, .int .u64 0, .int .u64 0, .int .u64 0, .int .u64 0, .slice none 0 0] 28)
  have hm2 := hmax
  unfold maxLen at hm2
  obtain ⟨iI, hiI, hz0, hz1, hz2⟩ := info_parts Rx.infoInt
  go_enter Try.func13, Try.ntmps13
  by_cases h0 : 100 < s.size
  · have HO := Lib.hid (show Px.code s = 21 by rw [Px.code, if_pos h0])
    have e0 : decide ((100 : Int) < (s.size : Int)) = true := decide_eq_true (by omega)
    go_wp2_with fail
    exact bodyPost_ret (v := .tuple #[Px.zero, .int .i64 21]) (by simp [results, Try.results13, go_sem, Px.zero, Rx.hdr_none]) rfl ⟨Px.zero, Rx.nil, by rw [HO.out], Rx.isB_nil _ _, fun e => by rw [HO.out] at e; simp at e, fun _ => rfl, A⟩
  have e0 : decide ((100 : Int) < (s.size : Int)) = false := decide_eq_false (by omega)
  have HO := Lib.hid (show Px.code s = Px.out ((Px.sg s.data.toList).bind Rx.read) by rw [Px.code, if_neg h0]; rfl)
  have eU : (w.alloc (.cells #[.int .u8 0, .int .u64 0, .int .u64 0, .int .u64 0, .int .u64 0, .slice none 0 0] 28)).heap.size = w.heap.size + 1 := by simp [go_sem]
  have BR := Bs.below1 (w.alloc (.cells #[.int .u8 0, .int .u64 0, .int .u64 0, .int .u64 0, .int .u64 0, .slice none 0 0] 28)) (.cells #[.slice none 0 0, .int .i64 0, .bool false, .bool false] 71)
  have C : Rx.PW w (w.heap.size + 1) (.slice none 0 0) [] ((w.alloc (.cells #[.int .u8 0, .int .u64 0, .int .u64 0, .int .u64 0, .int .u64 0, .slice none 0 0] 28)).alloc (.cells #[.slice none 0 0, .int .i64 0, .bool false, .bool false] 71)) := by
    refine ⟨by simp [go_sem], by simp [go_sem], by simp [go_sem], by simp [go_sem], by simp [go_sem], by simp [go_sem], by simp [go_sem], by simp [go_sem], fun j v hv => ?_, World.ownsRow_nil _ _ _ _, N.up BR, Bs.below_up A BR, Nat.lt_succ_self _⟩
    have hn := heap_alloc_new (w.alloc (.cells #[.int .u8 0, .int .u64 0, .int .u64 0, .int .u64 0, .int .u64 0, .slice none 0 0] 28)) (.cells #[.slice none 0 0, .int .i64 0, .bool false, .bool false] 71)
    rw [eU] at hn
    rcases j with _ | _ | _ | _ | j
    · omega
    · omega
    · omega
    · omega
    · simp only [World.cell?] at hv
      rw [hn] at hv
      simp at hv
  clear N A BR eU
  go_wp2_with fail
  generalize (w.alloc (.cells #[.int .u8 0, .int .u64 0, .int .u64 0, .int .u64 0, .int .u64 0, .slice none 0 0] 28)).alloc (.cells #[.slice none 0 0, .int .i64 0, .bool false, .bool false] 71) = U at *
  go_loopw [0] (fun v wr => ∃ (t : ByteArray) (q : Value) (ns : List Int), v = .string t ∧ ns.length + t.size ≤ s.size ∧ Hid (Px.sg s.data.toList = (Px.sg t.data.toList).map (ns ++ ·)) ∧ Hid (∀ c ∈ ns, 0 ≤ c) ∧ Rx.PW w (w.heap.size + 1) q ns wr) (fun v _ => Px.lenS v)
  case atStart => exact ⟨s, _, [], rfl, by simp, Lib.hid (by simp), Lib.hid (by simp), C⟩
  case round =>
    clear C
    obtain ⟨t, q, ns, rfl, hle, HSG, HNN, C⟩ := hrel
    have hk0 := Rn.firstL_bd t.data.toList
    rw [Rn.len_data] at hk0
    obtain ⟨k, hk⟩ : ∃ k : Nat, (Rn.firstL t.data.toList).2 = k := ⟨_, (Int.toNat_of_nonneg hk0.1).symm⟩
    have HK := Lib.hid hk
    rw [hk] at hk0
    have hse := Px.sg_eq t.data.toList
    rw [hk] at hse
    have HSE := Lib.hid hse; clear hse
    have hc := fun w' => (refFirst_any t w' (by unfold maxLen; omega))
    rw [hk] at hc
    have HC := Lib.hid hc; clear hc hk
    have HPOS := Lib.hid (fun (h : 0 < k) => Rn.first_pos (l := t.data.toList) (by rw [HK.out]; omega))
    generalize (Rn.firstL t.data.toList).1 = n at *
    by_cases ht : 0 < t.size
    · have HNE := Lib.hid (show t.data.toList.isEmpty = false by rw [← Bool.not_eq_true, List.isEmpty_iff_length_eq_zero, Rn.len_data]; omega)
      have t1 : decide ((0 : Int) < (t.size : Int)) = true := decide_eq_true (by omega)
      go_wp2_with fail
      refine (HC.out _).mono ?_
      rintro e w1 ⟨rfl, hb⟩
      replace C := C.up hb
      clear hb HC t1
      by_cases hk1 : k = 0
      · subst hk1
        have HO2 := Lib.hid (show Px.code s = 20 by rw [HO.out, HSG.out, HSE.out, HNE.out]; simp [Px.out])
        have e0 := C.nod.cell.c0; have e1 := C.nod.cell.c1; have e2 := C.nod.cell.c2; have e3 := C.nod.cell.c3; have e4 := C.nod.cell.c4; have e5 := C.nod.cell.c5
        have z9 := C.nod.frz
        simp only [Nat.zero_add] at e0 e1 e2 e3 e4 e5
        have z0 := z9 0 (by decide); have z1 := z9 1 (by decide); have z2 := z9 2 (by decide); have z3 := z9 3 (by decide); have z4 := z9 4 (by decide); have z5 := z9 5 (by decide)
        clear z9
        have HBE := Lib.hid C.bel
        clear C
        go_wp2_with fail
        refine bodyPost_ret (v := .tuple #[Px.zero, .int .i64 20]) (by simp [results, Try.results13, go_sem, Px.zero, Rx.hdr_none, e0, e1, e2, e3, e4, e5]) rfl ⟨Px.zero, Rx.nil, by rw [HO2.out], Rx.isB_nil _ _, fun e => by rw [HO2.out] at e; simp at e, fun _ => rfl, ?_⟩
        have R9 := Rx.wr_below HBE.out (Nat.le_refl _) 0 (fun _ => false) none 0 0
        rw [Rx.wr_zero] at R9
        exact R9
      · have hk2 : ((k : Int) == 0) = false := beq_eq_false_iff_ne.2 (by omega)
        have B6 := Bs.below1 w1 (.cells #[.int .i64 n] 3)
        have C6 := C.up B6
        have nw : ∀ j u, [Value.int .i64 n][j]? = some u → (w1.alloc (.cells #[.int .i64 n] 3)).cell? ((⟨w1.heap.size, 0, none⟩ : Addr).add j) = some u := World.news_of_block (cs := #[.int .i64 n]) (t := 3) (fr := (0, 0)) (heap_alloc_new w1 _)
        have hbase : w.heap.size + 1 + 1 ≤ (w1.alloc (.cells #[.int .i64 n] 3)).heap.size := C6.lt
        have r0 := C.c0
        have r0' := C6.c0
        have y0' := C6.z0
        have hq : ∃ a9 n9 c9, q = .slice a9 n9 c9 := by
          rcases C.own.2 with ⟨h0, _⟩ | ⟨g, cap, cur, e, _⟩
          · exact ⟨_, _, _, h0⟩
          · exact ⟨_, _, _, e⟩
        obtain ⟨a9, n9, c9, rfl⟩ := hq
        have HC6 := Lib.hid C6
        clear C C6 B6
        go_wp2_with (first | (at_builtin; refine wpList_append_own _ rfl _ _ 51 rfl (w.heap.size + 1 + 1) 3 iI _ 1 8 Try.underlying51 hiI hz0 hz1 hz2 rfl (by decide) _ _ _ rfl HC6.out.own ⟨w1.heap.size, 0, none⟩ 1 1 [.int .i64 n] rfl rfl nw (by simp [Value.oneCell']) (by unfold maxLen; omega) (by omega) hbase ?_; intro v7 w4 o7 g7 n7; obtain ⟨a7, n7', c7, rfl⟩ := Rx.row_form o7; have k7 := (HC6.out.mid g7).1; have y7 := (HC6.out.mid g7).2))
        have HC7 := Lib.hid (HC6.out.step o7 g7)
        clear HC6 g7 o7 n7 k7 y7
        go_roundw
        case rel =>
          refine ⟨t.extract k t.size, _, ns ++ [n], rfl, by simp; omega, Lib.hid ?_, Lib.hid ?_, HC7.out⟩
          · rw [HSG.out, HSE.out, HNE.out, tail_data]
            simp only [Bool.false_eq_true, if_false]
            rw [if_neg (by omega), Int.toNat_natCast, Option.map_map]
            congr 1
            funext p
            simp
          · intro c hc
            rcases List.mem_append.1 hc with hc | hc
            · exact HNN.out c hc
            · rw [List.mem_singleton.1 hc]; exact HPOS.out (by omega)
        case measure => simp [Px.lenS]; omega
    · have HN0 := Lib.hid (show Px.sg s.data.toList = some ns by
        rw [HSG.out]
        have : t.data.toList = [] := List.eq_nil_of_length_eq_zero (by rw [Rn.len_data]; omega)
        rw [this, Px.sg_eq]
        simp)
      obtain ⟨a8, cap8, S8⟩ := C.st HNN.out (by omega)
      have t1 : decide ((0 : Int) < (t.size : Int)) = false := decide_eq_false (by omega)
      have HAL := Lib.hid (refAlt_any ns.length ns (Nat.le_refl _) (w.heap.size + 1) a8 ns cap8 false wr S8)
      have hwl : w.heap.size + 1 < wr.heap.size := C.lt
      have HBE := Lib.hid C.bel
      have HND := Lib.hid C.nod
      clear C HC HSE HPOS HK S8
      go_wp2_with fail
      refine HAL.out.mono ?_
      rintro e w1 ⟨v, y, z, rfl, hx, g1, S1, hz⟩
      have HB1 := Lib.hid (HBE.out.grown g1 HBE.out.size (fun k hk => by injection hk; omega))
      have HN1 := Lib.hid (HND.out.grown g1 (by omega))
      replace hx : Rx.IsB w1 (w.heap.size + 1 ≤ ·) y v := hx.mono (fun j hj => by omega)
      have hsz1 := g1.size
      clear HAL HBE HND g1
      obtain ⟨k5, f5, x5, n5, c5, rfl⟩ := hx.form
      have B6 := Bs.below1 w1 (.cells #[.int .u8 k5, .int .u64 (Bs.word f5 0), .int .u64 (Bs.word f5 1), .int .u64 (Bs.word f5 2), .int .u64 (Bs.word f5 3), .slice x5 n5 c5] 28)
      have S6 := S1.up B6
      have V6 := Rx.nod_new w1 k5 f5 x5 n5 c5
      have N6 := HN1.out.up B6
      have HX6 := Lib.hid (hx.up B6)
      have HB6 := Lib.hid (Bs.below_up HB1.out B6)
      have HZ := Lib.hid hz
      clear hx B6 S1 HN1 HB1 hz
      unfold Rx.hdr
      cases ha : Rx.alt ns with
      | none =>
        rw [ha] at S6
        clear HZ
        obtain ⟨i9, R⟩ := S6
        have r2 := R.c2
        clear R
        have HO2 := Lib.hid (show Px.code s = 20 by rw [HO.out, HN0.out]; show Px.out (Rx.read ns) = 20; rw [Rx.read, ha]; rfl)
        go_wp2_with fail
        generalize (w1.alloc (.cells #[.int .u8 k5, .int .u64 (Bs.word f5 0), .int .u64 (Bs.word f5 1), .int .u64 (Bs.word f5 2), .int .u64 (Bs.word f5 3), .slice x5 n5 c5] 28)) = W6 at *
        go_quiet (fail)
        have BD := Rx.below_drewN W6 nq
        replace N6 := N6.up BD
        replace V6 := V6.up BD
        have HX7 := Lib.hid (HX6.out.up BD)
        have HB7 := Lib.hid (Bs.below_up HB6.out BD)
        clear r2
        clear BD HX6 HB6
        have e0 := N6.cell.c0; have e1 := N6.cell.c1; have e2 := N6.cell.c2; have e3 := N6.cell.c3; have e4 := N6.cell.c4; have e5 := N6.cell.c5
        have z9 := N6.frz
        simp only [Nat.zero_add] at e0 e1 e2 e3 e4 e5
        have z0 := z9 0 (by decide); have z1 := z9 1 (by decide); have z2 := z9 2 (by decide); have z3 := z9 3 (by decide); have z4 := z9 4 (by decide); have z5 := z9 5 (by decide)
        have d0 := V6.cell.c0; have d1 := V6.cell.c1; have d2 := V6.cell.c2; have d3 := V6.cell.c3; have d4 := V6.cell.c4; have d5 := V6.cell.c5
        simp only [Nat.zero_add] at d0 d1 d2 d3 d4 d5
        clear z9 N6 V6
        generalize W6.drewN nq = W7 at *
        go_wp2_with fail
        refine bodyPost_ret (v := .tuple #[Px.zero, .int .i64 20]) (by simp [results, Try.results13, go_sem, Px.zero, Rx.hdr_none, e0, e1, e2, e3, e4, e5]) rfl ⟨Px.zero, Rx.nil, by rw [HO2.out], Rx.isB_nil _ _, fun e => by rw [HO2.out] at e; simp at e, fun _ => rfl, ?_⟩
        have R9 := Rx.wr_below HB7.out (Nat.le_refl _) 0 (fun _ => false) none 0 0
        rw [Rx.wr_zero] at R9
        exact R9
      | some p9 =>
        obtain ⟨xs, u⟩ := p9
        rw [ha] at S6
        replace S6 : Rx.St _ (w.heap.size + 1) a8 ns cap8 (some u) z := S6
        obtain ⟨k9, hk9, hu9, R⟩ := S6
        have r0 := R.c0; have r1 := R.c1; have r2 := R.c2; have r3 := R.c3
        clear R
        cases u with
        | cons q u1 =>
          have hlt9 : k9 < ns.length := by
            rcases Nat.lt_or_ge k9 ns.length with h | h
            · exact h
            · rw [List.drop_eq_nil_of_le h] at hu9; simp at hu9
          clear HZ hu9
          have HO2 := Lib.hid (show Px.code s = 20 by rw [HO.out, HN0.out]; show Px.out (Rx.read ns) = 20; rw [Rx.read, ha]; rfl)
          have t5 : decide ((k9 : Int) < (ns.length : Int)) = true := decide_eq_true (by omega)
          have t6 : decide (k9 < ns.length) = true := decide_eq_true (by omega)
          go_wp2_with fail
          generalize (w1.alloc (.cells #[.int .u8 k5, .int .u64 (Bs.word f5 0), .int .u64 (Bs.word f5 1), .int .u64 (Bs.word f5 2), .int .u64 (Bs.word f5 3), .slice x5 n5 c5] 28)) = W6 at *
          go_quiet (fail)
          have BD := Rx.below_drewN W6 nq
          replace N6 := N6.up BD
          replace V6 := V6.up BD
          have HX7 := Lib.hid (HX6.out.up BD)
          have HB7 := Lib.hid (Bs.below_up HB6.out BD)
          clear r0 r1 r2 r3
          clear BD HX6 HB6
          have e0 := N6.cell.c0; have e1 := N6.cell.c1; have e2 := N6.cell.c2; have e3 := N6.cell.c3; have e4 := N6.cell.c4; have e5 := N6.cell.c5
          have z9 := N6.frz
          simp only [Nat.zero_add] at e0 e1 e2 e3 e4 e5
          have z0 := z9 0 (by decide); have z1 := z9 1 (by decide); have z2 := z9 2 (by decide); have z3 := z9 3 (by decide); have z4 := z9 4 (by decide); have z5 := z9 5 (by decide)
          have d0 := V6.cell.c0; have d1 := V6.cell.c1; have d2 := V6.cell.c2; have d3 := V6.cell.c3; have d4 := V6.cell.c4; have d5 := V6.cell.c5
          simp only [Nat.zero_add] at d0 d1 d2 d3 d4 d5
          clear z9 N6 V6
          generalize W6.drewN nq = W7 at *
          go_wp2_with fail
          refine bodyPost_ret (v := .tuple #[Px.zero, .int .i64 20]) (by simp [results, Try.results13, go_sem, Px.zero, Rx.hdr_none, e0, e1, e2, e3, e4, e5]) rfl ⟨Px.zero, Rx.nil, by rw [HO2.out], Rx.isB_nil _ _, fun e => by rw [HO2.out] at e; simp at e, fun _ => rfl, ?_⟩
          have R9 := Rx.wr_below HB7.out (Nat.le_refl _) 0 (fun _ => false) none 0 0
          rw [Rx.wr_zero] at R9
          exact R9
        | nil =>
          have hge9 : ns.length ≤ k9 := by
            have := congrArg List.length hu9
            simp at this
            omega
          clear hu9
          have t5 : decide ((k9 : Int) < (ns.length : Int)) = false := decide_eq_false (by omega)
          have t6 : decide (k9 < ns.length) = false := decide_eq_false (by omega)
          have HRD := Lib.hid (show Px.code s = Px.out (some (Rx.several 3 xs)) by rw [HO.out, HN0.out]; show Px.out (Rx.read ns) = _; rw [Rx.read, ha])
          have HPA := Lib.hid (show Px.parse s = some (Rx.several 3 xs) by rw [Px.parse, HN0.out]; show Rx.read ns = _; rw [Rx.read, ha])
          have HZ2 := Lib.hid (HZ.out (Rx.several 3 xs) [] (by rw [ha]; rfl))
          clear HZ
          cases hzz : z
          · rw [hzz] at r3
            have hmy : (Rx.several 3 xs).may 1 = true := by have := HZ2.out.1; rw [hzz] at this; simpa using this.symm
            have hyx := HZ2.out.2 hzz
            subst hyx
            have HMY := Lib.hid hmy
            have HO2 := Lib.hid (show Px.code s = 0 by rw [HRD.out, Px.out, if_pos hmy])
            clear hzz hmy
            go_wp2_with fail
            generalize (w1.alloc (.cells #[.int .u8 k5, .int .u64 (Bs.word f5 0), .int .u64 (Bs.word f5 1), .int .u64 (Bs.word f5 2), .int .u64 (Bs.word f5 3), .slice x5 n5 c5] 28)) = W6 at *
            go_quiet (fail)
            have BD := Rx.below_drewN W6 nq
            replace N6 := N6.up BD
            replace V6 := V6.up BD
            have HX7 := Lib.hid (HX6.out.up BD)
            have HB7 := Lib.hid (Bs.below_up HB6.out BD)
            replace r3 := Bs.cell_up BD r3
            clear r0 r1 r2
            clear BD HX6 HB6
            have e0 := N6.cell.c0; have e1 := N6.cell.c1; have e2 := N6.cell.c2; have e3 := N6.cell.c3; have e4 := N6.cell.c4; have e5 := N6.cell.c5
            have z9 := N6.frz
            simp only [Nat.zero_add] at e0 e1 e2 e3 e4 e5
            have z0 := z9 0 (by decide); have z1 := z9 1 (by decide); have z2 := z9 2 (by decide); have z3 := z9 3 (by decide); have z4 := z9 4 (by decide); have z5 := z9 5 (by decide)
            have d0 := V6.cell.c0; have d1 := V6.cell.c1; have d2 := V6.cell.c2; have d3 := V6.cell.c3; have d4 := V6.cell.c4; have d5 := V6.cell.c5
            simp only [Nat.zero_add] at d0 d1 d2 d3 d4 d5
            clear z9 N6 V6
            generalize W6.drewN nq = W7 at *
            go_wp2_with fail
            refine bodyPost_ret (v := .tuple #[Rx.hdr k5 f5 x5 n5 c5, .int .i64 0]) (by simp [results, Try.results13, go_sem, Rx.hdr, e0, e1, e2, e3, e4, e5]) rfl ⟨_, Rx.several 3 xs, by rw [HO2.out], ?_, fun _ => ⟨HPA.out, HMY.out⟩, fun e => absurd HO2.out e, ?_⟩
            · exact (HX7.out.wr (b := w.heap.size) (by omega) k5 f5 x5 n5 c5).mono (fun j hj => by omega)
            · exact Rx.wr_below HB7.out (Nat.le_refl _) k5 f5 x5 n5 c5
          · rw [hzz] at r3
            have hmy : (Rx.several 3 xs).may 1 = false := by have := HZ2.out.1; rw [hzz] at this; simpa using this.symm
            have HO2 := Lib.hid (show Px.code s = 21 by rw [HRD.out, Px.out, if_neg (by rw [hmy]; simp)])
            clear hzz hmy
            go_wp2_with fail
            generalize (w1.alloc (.cells #[.int .u8 k5, .int .u64 (Bs.word f5 0), .int .u64 (Bs.word f5 1), .int .u64 (Bs.word f5 2), .int .u64 (Bs.word f5 3), .slice x5 n5 c5] 28)) = W6 at *
            go_quiet (fail)
            have BD := Rx.below_drewN W6 nq
            replace N6 := N6.up BD
            replace V6 := V6.up BD
            have HX7 := Lib.hid (HX6.out.up BD)
            have HB7 := Lib.hid (Bs.below_up HB6.out BD)
            replace r3 := Bs.cell_up BD r3
            clear r0 r1 r2
            clear BD HX6 HB6
            have e0 := N6.cell.c0; have e1 := N6.cell.c1; have e2 := N6.cell.c2; have e3 := N6.cell.c3; have e4 := N6.cell.c4; have e5 := N6.cell.c5
            have z9 := N6.frz
            simp only [Nat.zero_add] at e0 e1 e2 e3 e4 e5
            have z0 := z9 0 (by decide); have z1 := z9 1 (by decide); have z2 := z9 2 (by decide); have z3 := z9 3 (by decide); have z4 := z9 4 (by decide); have z5 := z9 5 (by decide)
            have d0 := V6.cell.c0; have d1 := V6.cell.c1; have d2 := V6.cell.c2; have d3 := V6.cell.c3; have d4 := V6.cell.c4; have d5 := V6.cell.c5
            simp only [Nat.zero_add] at d0 d1 d2 d3 d4 d5
            clear z9 N6 V6
            generalize W6.drewN nq = W7 at *
            go_wp2_with fail
            refine bodyPost_ret (v := .tuple #[Px.zero, .int .i64 21]) (by simp [results, Try.results13, go_sem, Px.zero, Rx.hdr_none, e0, e1, e2, e3, e4, e5]) rfl ⟨Px.zero, Rx.nil, by rw [HO2.out], Rx.isB_nil _ _, fun e => by rw [HO2.out] at e; simp at e, fun _ => rfl, ?_⟩
            have R9 := Rx.wr_below HB7.out (Nat.le_refl _) 0 (fun _ => false) none 0 0
            rw [Rx.wr_zero] at R9
            exact R9
end Go.Proofs.Ytigdelfoipcilaa
