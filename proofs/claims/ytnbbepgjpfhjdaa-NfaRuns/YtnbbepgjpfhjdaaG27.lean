/- What the document's Step answers, walked. What the document's Run answers, walked. -/
import Derived.Test.YtnbbepgjpfhjdaaG26
import Derived.Test.YtnbbepgjpfhjdaaG25
namespace Go.Proofs.Ytnbbepgjpfhjdaa
set_option linter.unusedVariables false
set_option linter.unusedSimpArgs false
open Go.RowKit
theorem Nr.row_len {l : List Int} {P : Nat → Prop} (h : Nf.Rise l P) {m : Nat} (hP : ∀ p, P p → p < m) : l.length ≤ m := (Nh.rise_len h m hP).1
structure Nr.SS (w : World) (p1 p2 v1 v2 : Value) (lo lr : List Int) (u : World) : Prop where
  bel : Below w.heap.size w u
  fi : Nf.FB u w.heap.size p1 p2
  res : Nf.FB u (w.heap.size + 1) (.slice none 0 0) (.slice none 0 0)
  fb : Nf.FB u (w.heap.size + 2) v1 v2
  r1 : Nf.Row u (fun k => w.heap.size + 2 < k) v1 lo
  r2 : Nf.Row u (fun k => w.heap.size + 2 < k) v2 lr
theorem Nr.SS.up {w : World} {p1 p2 v1 v2 : Value} {lo lr : List Int} {u u' : World} (h : Nr.SS w p1 p2 v1 v2 lo lr u) (hb : Below u.heap.size u u') : Nr.SS w p1 p2 v1 v2 lo lr u' := ⟨Bs.below_up h.bel hb, h.fi.up hb, h.res.up hb, h.fb.up hb, h.r1.up hb, h.r2.up hb⟩
theorem Nr.SS.put {w : World} {p1 p2 v1 v2 : Value} {lo lr : List Int} {u : World} (h : Nr.SS w p1 p2 v1 v2 lo lr u) {x y : Value} {lo' lr' : List Int} (hx : Nf.Row u (fun k => w.heap.size + 2 < k) x lo') (hy : Nf.Row u (fun k => w.heap.size + 2 < k) y lr') : Nr.SS w p1 p2 x y lo' lr' ((u.setCell ⟨w.heap.size + 2, 0, none⟩ x).setCell ⟨w.heap.size + 2, 1, none⟩ y) :=
  ⟨(h.bel.setCell (p := ⟨w.heap.size + 2, 0, none⟩) (by simp) _).setCell (p := ⟨w.heap.size + 2, 1, none⟩) (by simp) _, (h.fi.far (by omega) _).far (by omega) _, (h.res.far (by omega) _).far (by omega) _, (h.fb.set0 x).set1 y, (hx.set (by simp) _).set (by simp) _, (hy.set (by simp) _).set (by simp) _⟩
theorem Nr.SS.out {w : World} {p1 p2 v1 v2 : Value} {lo lr : List Int} {u : World} (h : Nr.SS w p1 p2 v1 v2 lo lr u) {P R : Nat → Prop} (h1 : Nf.Rise lo P) (h2 : Nf.Rise lr R) : Ng.FP w (fun k => w.heap.size ≤ k) P R (.returned (.agg #[v1, v2])) ((u.setCell ⟨w.heap.size + 1, 0, none⟩ v1).setCell ⟨w.heap.size + 1, 1, none⟩ v2) :=
  ⟨lo, lr, ⟨v1, v2, rfl, ((h.r1.set (by simp) _).set (by simp) _).mono (fun k hk => by omega), ((h.r2.set (by simp) _).set (by simp) _).mono (fun k hk => by omega), (h.bel.setCell (p := ⟨w.heap.size + 1, 0, none⟩) (by simp) _).setCell (p := ⟨w.heap.size + 1, 1, none⟩) (by simp) _⟩, h1, h2⟩
def Nr.relU (r k : Nat) (v1 v2 vA : Value) (pk : Addr) (f1 f2 : Value) (H : Nat) (so sr : List Int) : List (Value → World → Prop) :=
  [fun v _ => v = .agg #[v1, v2], fun v _ => v = .pointer (some ⟨r, 0, none⟩), fun v _ => v = .pointer (some ⟨r, 0, none⟩), fun v _ => v = .pointer (some ⟨r, 1, none⟩), fun v _ => v = vA, fun v _ => v = .int .i64 k, fun v _ => v = .pointer (some pk),
   fun v _ => v = .agg #[f1, f2], fun v u => ∃ x y, v = .agg #[x, y] ∧ Nf.Row u (fun j => H < j) x so ∧ Nf.Row u (fun j => H < j) y sr]
theorem Nr.relU_up (r k : Nat) (v1 v2 vA : Value) (pk : Addr) (f1 f2 : Value) (H : Nat) (so sr : List Int) : Rg.Ups (Nr.relU r k v1 v2 vA pk f1 f2 H so sr) := by
  refine ⟨?_, ?_, ?_, ?_, ?_, ?_, ?_, ?_, ?_, trivial⟩
  all_goals intro v w w' h hb
  all_goals (first | exact h | (obtain ⟨x, y, e, h1, h2⟩ := h; exact ⟨x, y, e, h1.up hb, h2.up hb⟩))
theorem Nr.rise_or {lo : List Int} {l : List Rx} {c : Nat} {fo : List Int} {j : Nat} {W : Nat → Nat → Prop} (h : Nf.Rise lo (fun p => ∃ k : Nat, (k : Int) ∈ fo.take j ∧ Nf.onL l k c ∧ W k p)) (hj : j < fo.length) {F : List Int} {k0 : Nat} (e : fo[j] = (k0 : Int)) (hon : Nf.onL l k0 c) (hF : Nf.Rise F (W k0)) : Nf.Rise (Nf.union lo F) (fun p => ∃ k : Nat, (k : Int) ∈ fo.take (j + 1) ∧ Nf.onL l k c ∧ W k p) := by
  refine (Nf.rise_union h hF).congr fun p => ?_
  rw [List.take_succ_eq_append_getElem hj, e]
  constructor
  · rintro (⟨k, h1, h2, h3⟩ | h3)
    · exact ⟨k, List.mem_append_left _ h1, h2, h3⟩
    · exact ⟨k0, by simp, hon, h3⟩
  · rintro ⟨k, h1, h2, h3⟩
    rw [List.mem_append, List.mem_singleton] at h1
    rcases h1 with h1 | h1
    · exact .inl ⟨k, h1, h2, h3⟩
    · have : k = k0 := by omega
      subst this
      exact .inr h3
theorem Nr.rise_not {lo : List Int} {l : List Rx} {c : Nat} {fo : List Int} {j : Nat} {W : Nat → Nat → Prop} (h : Nf.Rise lo (fun p => ∃ k : Nat, (k : Int) ∈ fo.take j ∧ Nf.onL l k c ∧ W k p)) (hj : j < fo.length) (hno : ∀ k : Nat, fo[j] = (k : Int) → ¬ Nf.onL l k c) : Nf.Rise lo (fun p => ∃ k : Nat, (k : Int) ∈ fo.take (j + 1) ∧ Nf.onL l k c ∧ W k p) := by
  refine h.congr fun p => ?_
  rw [List.take_succ_eq_append_getElem hj]
  constructor
  · rintro ⟨k, h1, h2, h3⟩
    exact ⟨k, List.mem_append_left _ h1, h2, h3⟩
  · rintro ⟨k, h1, h2, h3⟩
    rw [List.mem_append, List.mem_singleton] at h1
    rcases h1 with h1 | h1
    · exact ⟨k, h1, h2, h3⟩
    · exact absurd h2 (hno k h1.symm)
theorem Nr.row_set {w : World} {a : Option Addr} {fs : List (Nat → Bool)} (h : Bs.Row w a fs) (k : Nat) (hk : k < fs.length) : ∃ p, a = some p ∧ w.cell? (p.add (k * 4)) = some (.int .u64 (Bs.word fs[k] 0)) ∧ w.cell? ⟨(p.add (k * 4)).block, (p.add (k * 4)).off + 1, none⟩ = some (.int .u64 (Bs.word fs[k] 1)) ∧ w.cell? ⟨(p.add (k * 4)).block, (p.add (k * 4)).off + 2, none⟩ = some (.int .u64 (Bs.word fs[k] 2)) ∧ w.cell? ⟨(p.add (k * 4)).block, (p.add (k * 4)).off + 3, none⟩ = some (.int .u64 (Bs.word fs[k] 3)) := by
  obtain ⟨p, e, h⟩ := h k hk
  exact ⟨p, e, h.c0, h.c1, h.c2, h.c3⟩
theorem Nr.front_cells {w : World} {a : Option Addr} {n c base : Nat} {As : List (Value × Value)} (h : w.ownsRow base 37 2 (.slice a n c) As.length (Nr.cells As)) (k : Nat) (hk : k < As.length) : ∃ p, a = some p ∧ w.cell? (p.add (k * 2)) = some As[k].1 ∧ w.cell? ⟨(p.add (k * 2)).block, (p.add (k * 2)).off + 1, none⟩ = some As[k].2 ∧ n = As.length := by
  rcases h.2 with ⟨_, h0⟩ | ⟨g, cap, cur, e, _⟩
  · omega
  · injection e with e1 e2 e3
    subst e1
    subst e2
    subst e3
    have e0 : ∀ j, (⟨g, 0, none⟩ : Addr).add j = ⟨g, j, none⟩ := fun j => by unfold Addr.add; split <;> simp_all
    have hc := h.cells (g := g) rfl
    have q := Nr.cells_at As k hk
    have q0 := hc _ _ q.1
    have q1 := hc _ _ q.2
    rw [e0] at q0 q1
    refine ⟨_, rfl, ?_, ?_, rfl⟩
    · rw [e0]; exact q0
    · rw [e0]; exact q1
set_option maxRecDepth 100000 in
set_option maxHeartbeats 3000000 in
theorem refStep_any (w : World) (r : Nat) (l : List Rx) {vS vA v2 v3 : Value} {As : List (Value × Value)} {Ls : List (List Int × List Int)} {so sr : List Int} (H : Nr.Mc w r l vS vA v2 v3 As Ls so sr) (hl : Nf.onesL l ≤ 2000) (hll : l.length ≤ 1000) (fo : List Int) (p1 p2 : Value) (hp1 : Nf.Row w (fun _ => True) p1 fo) (hp2 : ∃ a n c, p2 = .slice a n c) (hfo : fo.length ≤ 1000000) (c : Nat) (hc : c < 256) : Calls Try.prog 24 #[.pointer (some ⟨r, 0, none⟩), .agg #[p1, p2], .int .u8 c] w (Ng.FP w (fun k => w.heap.size ≤ k) (fun p => ∃ k : Nat, (k : Int) ∈ fo ∧ Nf.onL l k c ∧ Nf.folA l k p) (fun q => ∃ k : Nat, (k : Int) ∈ fo ∧ Nf.onL l k c ∧ Nf.rlst l q k)) := by
  obtain ⟨a1, n1, c1, rfl⟩ := hp1.form
  obtain ⟨a2, n2, c2, rfl⟩ := hp2
  have HN1 : Hid (n1 = fo.length) := Lib.hid hp1.at.1
  have hn6 : n1 ≤ 1000000 := by rw [HN1.out]; exact hfo
  have B1 := Bs.below1 w (.cells #[.slice a1 n1 c1, .slice a2 n2 c2] 37)
  have X1 := Nf.fb_new w (.slice a1 n1 c1) (.slice a2 n2 c2) 37
  have s1 : (w.alloc (.cells #[.slice a1 n1 c1, .slice a2 n2 c2] 37)).heap.size = w.heap.size + 1 := by simp
  have B2 := Bs.below1 (w.alloc (.cells #[.slice a1 n1 c1, .slice a2 n2 c2] 37)) (.cells #[.slice none 0 0, .slice none 0 0] 37)
  have X2 := Nf.fb_new (w.alloc (.cells #[.slice a1 n1 c1, .slice a2 n2 c2] 37)) (.slice none 0 0) (.slice none 0 0) 37
  have s2 : ((w.alloc (.cells #[.slice a1 n1 c1, .slice a2 n2 c2] 37)).alloc (.cells #[.slice none 0 0, .slice none 0 0] 37)).heap.size = w.heap.size + 2 := by simp
  rw [s1] at X2
  have B3 := Bs.below1 ((w.alloc (.cells #[.slice a1 n1 c1, .slice a2 n2 c2] 37)).alloc (.cells #[.slice none 0 0, .slice none 0 0] 37)) (.cells #[.slice none 0 0, .slice none 0 0] 37)
  have X3 := Nf.fb_new ((w.alloc (.cells #[.slice a1 n1 c1, .slice a2 n2 c2] 37)).alloc (.cells #[.slice none 0 0, .slice none 0 0] 37)) (.slice none 0 0) (.slice none 0 0) 37
  rw [s2] at X3
  have HS0 := Lib.hid (show Nr.SS w (.slice a1 n1 c1) (.slice a2 n2 c2) (.slice none 0 0) (.slice none 0 0) [] [] _ from ⟨Bs.below_up (Bs.below_up B1 B2) B3, (X1.up B2).up B3, X2.up B3, X3, Nh.row_nil _ _, Nh.row_nil _ _⟩)
  have HM0 := Lib.hid H
  have HP0 := Lib.hid hp1
  clear B1 X1 s1 B2 X2 s2 B3 X3 H hp1 hfo
  go_enter Try.func24, Try.ntmps24
  go_wp2_with fail
  generalize ((w.alloc (.cells #[.slice a1 n1 c1, .slice a2 n2 c2] 37)).alloc (.cells #[.slice none 0 0, .slice none 0 0] 37)).alloc (.cells #[.slice none 0 0, .slice none 0 0] 37) = U at *
  go_loopw [8] (fun i wr => ∃ (j : Nat) (v1 v2 : Value) (lo lr : List Int), j ≤ n1 ∧ i = .int .i64 j ∧ Hid (Nr.SS w (.slice a1 n1 c1) (.slice a2 n2 c2) v1 v2 lo lr wr) ∧ Hid (Nf.Rise lo (fun p => ∃ k : Nat, (k : Int) ∈ fo.take j ∧ Nf.onL l k c ∧ Nf.folA l k p)) ∧ Hid (Nf.Rise lr (fun q => ∃ k : Nat, (k : Int) ∈ fo.take j ∧ Nf.onL l k c ∧ Nf.rlst l q k))) (fun i _ => n1 - (intOf i).toNat)
  case atStart => exact ⟨0, _, _, [], [], by omega, rfl, HS0, Lib.hid (Nf.rise_nil (fun p h => by obtain ⟨k, h, _⟩ := h; simp at h)), Lib.hid (Nf.rise_nil (fun p h => by obtain ⟨k, h, _⟩ := h; simp at h))⟩
  case round =>
    clear HS0
    obtain ⟨j, v1, v2', lo, lr, hj, rfl, HS, HLO, HLR⟩ := hrel
    have f0 := HS.out.fi.c0
    by_cases hlt : j < n1
    · have hlt' : j < fo.length := by rw [← HN1.out]; exact hlt
      have HMC := Lib.hid (HM0.out.up HS.out.bel)
      obtain ⟨x, rfl, hx⟩ := (HP0.out.up HS.out.bel).at.2 j hlt'
      have HNO1 := Lib.hid (fun (hno : ∀ k : Nat, fo[j] = (k : Int) → ¬ Nf.onL l k c) => Nr.rise_not HLO.out hlt' hno)
      have HNO2 := Lib.hid (fun (hno : ∀ k : Nat, fo[j] = (k : Int) → ¬ Nf.onL l k c) => Nr.rise_not HLR.out hlt' hno)
      have HYES1 := Lib.hid (fun (F : List Int) (k0 : Nat) (e : fo[j] = (k0 : Int)) (hon : Nf.onL l k0 c) (hF : Nf.Rise F (Nf.folA l k0)) => Nr.rise_or HLO.out hlt' e hon hF)
      have HYES2 := Lib.hid (fun (F : List Int) (k0 : Nat) (e : fo[j] = (k0 : Int)) (hon : Nf.onL l k0 c) (hF : Nf.Rise F (fun q => Nf.rlst l q k0)) => Nr.rise_or (W := fun k q => Nf.rlst l q k) HLR.out hlt' e hon hF)
      generalize fo[j] = z at *
      have i1 : (0 : Int) ≤ (j : Int) := by omega
      have i2 : (j : Int) < (n1 : Int) := by omega
      obtain ⟨aS, cS, hvS, hbr⟩ := HMC.out.os.slice
      subst hvS
      have c0 := HMC.out.c0
      have hsl : (Rx.setsL l).length = Nf.onesL l := Nf.setsL_len l
      have HSL := Lib.hid hsl
      rw [hsl] at c0
      clear hsl
      have HBR := Lib.hid hbr
      clear hbr
      by_cases hz0 : 0 ≤ z
      · obtain ⟨k, rfl⟩ : ∃ k : Nat, z = k := ⟨z.toNat, by omega⟩
        by_cases hzk : k < Nf.onesL l
        · have hks : k < (Rx.setsL l).length := by rw [HSL.out]; exact hzk
          have e3 : decide ((0 : Int) ≤ (k : Int)) = true := decide_eq_true hz0
          have e4 : decide ((k : Int) < (Nf.onesL l : Int)) = true := decide_eq_true (by omega)
          have HON := Lib.hid (Ng.onL_set (c := c) hzk)
          obtain ⟨pS, rfl, q0, q1, q2, q3⟩ := Nr.row_set HBR.out k hks
          have HSA := Lib.hid (show Ng.setAt l k = (Rx.setsL l)[k] by unfold Ng.setAt; rw [if_pos (by omega), Int.toNat_natCast, List.getD_eq_getElem?_getD, List.getElem?_eq_getElem hks]; rfl)
          rw [← HSA.out] at q0 q1 q2 q3
          have C := Lib.hid (refHas_any (Ng.setAt l k) c hc wr)
          unfold Bs.val at C
          have i3 : (0 : Int) ≤ (k : Int) := by omega
          have i4 : (k : Int) < (Nf.onesL l : Int) := by omega
          have hkl : k < Ls.length := by rw [HMC.out.sp.len]; exact hzk
          have hka : k < As.length := by rw [HMC.out.la]; exact hkl
          generalize Nf.onesL l = nl at *
          go_wp2_with fail
          refine C.out.mono ?_
          rintro e w1 ⟨rfl, b1⟩
          replace HS := Lib.hid (HS.out.up b1)
          replace HMC := Lib.hid (HMC.out.up b1)
          clear q0 q1 q2 q3 C b1 c0 hx f0
          cases hs : Ng.setAt l k c
          · have HNN := Lib.hid (show ∀ k' : Nat, (k : Int) = (k' : Int) → ¬ Nf.onL l k' c from fun k' e h => by
              have : k = k' := by omega
              subst this
              rw [HON.out, hs] at h
              simp at h)
            clear hs
            go_wp2_with fail
            go_roundw
            case rel => exact ⟨j + 1, _, _, _, _, by omega, by go_num, HS, Lib.hid (HNO1.out HNN.out), Lib.hid (HNO2.out HNN.out)⟩
            case measure => simp [intOf]; omega
          · have HYY := Lib.hid (HON.out.2 hs)
            clear hs
            obtain ⟨hR1, hR2⟩ := HMC.out.ra k hka hkl
            obtain ⟨hA1, hA2⟩ := HMC.out.sp.af k hkl
            obtain ⟨aA, nA, cA, rfl⟩ : ∃ a n c, vA = .slice a n c := by
              rcases HMC.out.oa.2 with ⟨e, _⟩ | ⟨g, c, cur, e, _⟩
              · exact ⟨_, _, _, e⟩
              · exact ⟨_, _, _, e⟩
            obtain ⟨pA, rfl, hq0, hq1, hnA⟩ := Nr.front_cells HMC.out.oa k hka
            have i5 : (k : Int) < (nA : Int) := by omega
            obtain ⟨b1, b2, b3, e1⟩ := hR1.form
            obtain ⟨d1, d2, d3, e2⟩ := hR2.form
            rw [e1] at hR1 hq0
            rw [e2] at hR2 hq1
            have HF1 := Lib.hid hR1
            have HF2 := Lib.hid hR2
            have HA0 := Lib.hid hq0
            have HA1 := Lib.hid hq1
            have HY1 := Lib.hid (HYES1.out _ k rfl HYY.out hA1)
            have HY2 := Lib.hid (HYES2.out _ k rfl HYY.out hA2)
            have hlo : lo.length ≤ 10000 := by
              have := Nr.row_len HLO.out (m := 2000) (fun p h => by obtain ⟨k', _, _, h⟩ := h; have := (Nf.folA_lt _ _ _ h).2; have := Nf.setsL_len l; have := HSL.out; omega)
              omega
            have hlr : lr.length ≤ 10000 := by
              have := Nr.row_len HLR.out (m := 1000) (fun p h => by obtain ⟨k', _, _, h⟩ := h; have := (Ng.rlst_lt _ _ _ h).1; omega)
              omega
            have hF1 : Ls[k].1.length ≤ 10000 := by
              have := Nr.row_len hA1 (m := 2000) (fun p h => by have := (Nf.folA_lt _ _ _ h).2; have := Nf.setsL_len l; have := HSL.out; omega)
              omega
            have hF2 : Ls[k].2.length ≤ 10000 := by
              have := Nr.row_len hA2 (m := 1000) (fun p h => by have := (Ng.rlst_lt _ _ _ h).1; omega)
              omega
            generalize Ls[k].1 = F1 at *
            generalize Ls[k].2 = F2 at *
            obtain ⟨g1, g2, g3, rfl⟩ := HS.out.r1.form
            obtain ⟨j1, j2, j3, rfl⟩ := HS.out.r2.form
            clear hR1 hR2 hA1 hA2 e1 e2 hq0 hq1 hnA HYES1 HYES2 HNO1 HNO2
            obtain ⟨W, hW⟩ : ∃ W, W = w1 := ⟨_, rfl⟩
            subst hW
            go_upto_region 7 with fail
            refine Rg.regionT (by kernel_rfl) (by kernel_rfl) (by kernel_rfl) (by decide) (Rg.rel (Nr.relU r k (.slice g1 g2 g3) (.slice j1 j2 j3) (.slice (some pA) nA cA) (pA.add (k * 2)) (.slice b1 b2 b3) (.slice d1 d2 d3) (w.heap.size + 2) (Nf.union lo F1) (Nf.union lr F2))) (fun u => Below W.heap.size W u) (fun w w' => Below w.heap.size w w') (fun i v w w' h _ hb => Rg.rel_up (Nr.relU_up _ _ _ _ _ _ _ _ _ _ _) h hb) (Below.refl _ _).drew ⟨?_, ?_, ?_, ?_, ?_, ?_, ?_, ?_, ?_, trivial⟩ ?_
            · intro fv u hw hd
              have hm := HS.out.fb.up hw
              have p0 := hm.c0
              have p1 := hm.c1
              clear hm
              have HW := Lib.hid hw
              clear hw hd
              simp only [Rg.step, Rg.all, Act.put, List.setIfInBounds_toArray, List.set_cons_zero, List.set_cons_succ]
              go_simp
              exact ⟨rfl, HW.out, Below.refl _ _⟩
            · intro fv u hw hd
              have HW := Lib.hid hw
              clear hw hd
              simp only [Rg.step, Rg.all, Act.put, List.setIfInBounds_toArray, List.set_cons_zero, List.set_cons_succ]
              go_simp
              exact ⟨rfl, HW.out, Below.refl _ _⟩
            · intro fv u hw hd
              have r1 : fv 1 = .pointer (some ⟨r, 0, none⟩) := hd _ (List.mem_cons_self ..)
              have HW := Lib.hid hw
              clear hw hd
              simp only [Rg.step, Rg.all, Act.put, List.setIfInBounds_toArray, List.set_cons_zero, List.set_cons_succ]
              go_simp
              exact ⟨rfl, HW.out, Below.refl _ _⟩
            · intro fv u hw hd
              have r2 : fv 2 = .pointer (some ⟨r, 0, none⟩) := hd _ (List.mem_cons_self ..)
              have HW := Lib.hid hw
              clear hw hd
              simp only [Rg.step, Rg.all, Act.put, List.setIfInBounds_toArray, List.set_cons_zero, List.set_cons_succ]
              go_simp
              exact ⟨rfl, HW.out, Below.refl _ _⟩
            · intro fv u hw hd
              have r3 : fv 3 = .pointer (some ⟨r, 1, none⟩) := hd _ (List.mem_cons_self ..)
              have c1 := (HMC.out.up hw).c1
              have HW := Lib.hid hw
              clear hw hd
              simp only [Rg.step, Rg.all, Act.put, List.setIfInBounds_toArray, List.set_cons_zero, List.set_cons_succ]
              go_simp
              exact ⟨rfl, HW.out, Below.refl _ _⟩
            · intro fv u hw hd
              have HW := Lib.hid hw
              clear hw hd
              simp only [Rg.step, Rg.all, Act.put, List.setIfInBounds_toArray, List.set_cons_zero, List.set_cons_succ]
              go_simp
              exact ⟨rfl, HW.out, Below.refl _ _⟩
            · intro fv u hw hd
              have r4 : fv 4 = .slice (some pA) nA cA := hd _ (List.mem_cons_self ..)
              have r5 : fv 5 = .int .i64 k := hd _ (List.mem_cons_of_mem _ (List.mem_cons_self ..))
              have HW := Lib.hid hw
              clear hw hd
              simp only [Rg.step, Rg.all, Act.put, List.setIfInBounds_toArray, List.set_cons_zero, List.set_cons_succ]
              go_simp
              exact ⟨rfl, HW.out, Below.refl _ _⟩
            · intro fv u hw hd
              have r6 : fv 6 = .pointer (some (pA.add (k * 2))) := hd _ (List.mem_cons_self ..)
              have q0 := Bs.cell_up hw HA0.out
              have q1 := Bs.cell_up hw HA1.out
              have HW := Lib.hid hw
              clear hw hd
              simp only [Rg.step, Rg.all, Act.put, List.setIfInBounds_toArray, List.set_cons_zero, List.set_cons_succ]
              go_simp
              exact ⟨rfl, HW.out, Below.refl _ _⟩
            · intro fv u hw hd
              have r0 : fv 0 = .agg #[.slice g1 g2 g3, .slice j1 j2 j3] := hd _ (List.mem_cons_self ..)
              have r7 : fv 7 = .agg #[.slice b1 b2 b3, .slice d1 d2 d3] := hd _ (List.mem_cons_of_mem _ (List.mem_cons_self ..))
              have C := Lib.hid (refJoin_any lo lr F1 F2 _ _ _ _ u ((HS.out.r1.up hw).mono (fun _ _ => trivial)) ((HS.out.r2.up hw).mono (fun _ _ => trivial)) (HF1.out.up hw) (HF2.out.up hw) hlo hlr hF1 hF2)
              have HW := Lib.hid hw
              clear hw hd
              simp only [Rg.step, Rg.all, Act.put, List.setIfInBounds_toArray, List.set_cons_zero, List.set_cons_succ]
              go_simp
              refine C.out.mono ?_
              rintro e u1 ⟨x1, y1, rfl, R1, R2, b1⟩
              have hKx : ∀ j, u.heap.size ≤ j → w.heap.size + 2 < j := fun j hj => by have := HW.out.size; have := HS.out.fb.lt; omega
              exact ⟨_, rfl, ⟨_, _, rfl, R1.mono hKx, R2.mono hKx⟩, Bs.below_up HW.out b1, b1⟩
            · intro fv u hw hR o ho
              obtain ⟨x1, y1, r8, R1, R2⟩ : ∃ x y, fv 8 = .agg #[x, y] ∧ Nf.Row u (fun j => w.heap.size + 2 < j) x (Nf.union lo F1) ∧ Nf.Row u (fun j => w.heap.size + 2 < j) y (Nf.union lr F2) := hR 8 (by decide)
              simp at ho
              subst ho
              simp only [Rg.step, Rg.all, Act.put, List.setIfInBounds_toArray, List.set_cons_zero, List.set_cons_succ]
              obtain ⟨h1, h2, h3, rfl⟩ := R1.form
              obtain ⟨i1', i2', i3', rfl⟩ := R2.form
              have hS2 := HS.out.up hw
              have HST := Lib.hid (hS2.put R1 R2)
              have p0 := hS2.fb.c0
              have p1 := hS2.fb.c1
              have z0 := hS2.fb.z0
              have z1 := hS2.fb.z1
              clear hw hR R1 R2 hS2
              generalize fv 0 = t0 at *
              generalize fv 1 = t1 at *
              generalize fv 2 = t2 at *
              generalize fv 3 = t3 at *
              generalize fv 4 = t4 at *
              generalize fv 5 = t5 at *
              generalize fv 6 = t6 at *
              generalize fv 7 = t7 at *
              go_simp
              go_wp2_with fail
              go_roundw
              case rel => exact ⟨j + 1, _, _, _, _, by omega, by go_num, HST, HY1, HY2⟩
              case measure => simp [intOf]; omega
        · have HNN := Lib.hid (show ∀ k' : Nat, (k : Int) = (k' : Int) → ¬ Nf.onL l k' c from fun k' e h => by
            obtain ⟨f, hf, _⟩ := h
            have := (List.getElem?_eq_some_iff.1 hf).1
            have := HSL.out
            omega)
          have e3 : decide ((0 : Int) ≤ (k : Int)) = true := decide_eq_true hz0
          have e4 : decide ((k : Int) < (Nf.onesL l : Int)) = false := decide_eq_false (by omega)
          generalize Nf.onesL l = nl at *
          go_wp2_with fail
          go_roundw
          case rel => exact ⟨j + 1, _, _, _, _, by omega, by go_num, HS, Lib.hid (HNO1.out HNN.out), Lib.hid (HNO2.out HNN.out)⟩
          case measure => simp [intOf]; omega
      · have HNN := Lib.hid (show ∀ k' : Nat, z = (k' : Int) → ¬ Nf.onL l k' c from fun k' e => by omega)
        have e3 : decide ((0 : Int) ≤ z) = false := decide_eq_false hz0
        go_wp2_with fail
        go_roundw
        case rel => exact ⟨j + 1, _, _, _, _, by omega, by go_num, HS, Lib.hid (HNO1.out HNN.out), Lib.hid (HNO2.out HNN.out)⟩
        case measure => simp [intOf]; omega
    · have ht : fo.take j = fo := List.take_of_length_le (by rw [← HN1.out]; omega)
      rw [ht] at HLO HLR
      obtain ⟨g1, g2, g3, rfl⟩ := HS.out.r1.form
      obtain ⟨j1, j2, j3, rfl⟩ := HS.out.r2.form
      have HO := Lib.hid (HS.out.out HLO.out HLR.out)
      have p0 := HS.out.fb.c0; have p1 := HS.out.fb.c1
      have y0 := HS.out.res.c0; have y1 := HS.out.res.c1; have z0 := HS.out.res.z0; have z1 := HS.out.res.z1
      have V := Lib.hid ((HS.out.res.set0 (.slice g1 g2 g3)).set1 (.slice j1 j2 j3))
      clear ht
      go_wp2_with fail
      have v0 := V.out.c0; have v1 := V.out.c1
      refine bodyPost_ret (v := .agg #[.slice g1 g2 g3, .slice j1 j2 j3]) (by simp [results, Try.results24, go_sem, v0, v1]) rfl HO.out
end Go.Proofs.Ytnbbepgjpfhjdaa
namespace Go.Proofs.Ytnbbepgjpfhjdaa
set_option linter.unusedVariables false
set_option linter.unusedSimpArgs false
open Go.RowKit
def Nr.ne2 (H k : Nat) : Prop := k ≠ H ∧ k ≠ H + 1
structure Nr.RW (w : World) (v1 v2 : Value) (os rs : List Int) (u : World) : Prop where
  bel : Below w.heap.size w u
  res : Nf.FB u w.heap.size (.slice none 0 0) (.slice none 0 0)
  f : Nf.FB u (w.heap.size + 1) v1 v2
  r1 : Nf.Row u (Nr.ne2 w.heap.size) v1 os
  r2 : Nf.Row u (Nr.ne2 w.heap.size) v2 rs
theorem Nr.RW.up {w : World} {v1 v2 : Value} {os rs : List Int} {u u' : World} (h : Nr.RW w v1 v2 os rs u) (hb : Below u.heap.size u u') : Nr.RW w v1 v2 os rs u' := ⟨Bs.below_up h.bel hb, h.res.up hb, h.f.up hb, h.r1.up hb, h.r2.up hb⟩
theorem Nr.RW.put {w : World} {v1 v2 : Value} {os rs : List Int} {u : World} (h : Nr.RW w v1 v2 os rs u) {x y : Value} {os' rs' : List Int} (hx : Nf.Row u (Nr.ne2 w.heap.size) x os') (hy : Nf.Row u (Nr.ne2 w.heap.size) y rs') : Nr.RW w x y os' rs' ((u.setCell ⟨w.heap.size + 1, 0, none⟩ x).setCell ⟨w.heap.size + 1, 1, none⟩ y) :=
  ⟨(h.bel.setCell (p := ⟨w.heap.size + 1, 0, none⟩) (by simp) _).setCell (p := ⟨w.heap.size + 1, 1, none⟩) (by simp) _, (h.res.far (by omega) _).far (by omega) _, (h.f.set0 x).set1 y, (hx.set (fun e => e.2 rfl) _).set (fun e => e.2 rfl) _, (hy.set (fun e => e.2 rfl) _).set (fun e => e.2 rfl) _⟩
theorem Nr.RW.out {w : World} {v1 v2 : Value} {os rs : List Int} {u : World} (h : Nr.RW w v1 v2 os rs u) {P R : Nat → Prop} (h1 : Nf.Rise os P) (h2 : Nf.Rise rs R) : Ng.FP w (fun _ => True) P R (.returned (.agg #[v1, v2])) ((u.setCell ⟨w.heap.size, 0, none⟩ v1).setCell ⟨w.heap.size, 1, none⟩ v2) :=
  ⟨os, rs, ⟨v1, v2, rfl, ((h.r1.set (fun e => e.1 rfl) _).set (fun e => e.1 rfl) _).mono (fun _ _ => trivial), ((h.r2.set (fun e => e.1 rfl) _).set (fun e => e.1 rfl) _).mono (fun _ _ => trivial), (h.bel.setCell (p := ⟨w.heap.size, 0, none⟩) (by simp) _).setCell (p := ⟨w.heap.size, 1, none⟩) (by simp) _⟩, h1, h2⟩
def Nr.RP (H : Nat) (P R : Nat → Prop) (v : Value) (u : World) : Prop := ∃ v3 v4 os rs, v = .agg #[v3, v4] ∧ Nf.Row u (Nr.ne2 H) v3 os ∧ Nf.Row u (Nr.ne2 H) v4 rs ∧ Nf.Rise os P ∧ Nf.Rise rs R
def Nr.relR (r H i : Nat) (v1 v2 : Value) (s : ByteArray) (c : Nat) (P R : Nat → Prop) : List (Value → World → Prop) :=
  [fun v _ => v = .pointer (some ⟨r, 0, none⟩), fun v _ => v = .agg #[v1, v2], fun v _ => v = .string s, fun v _ => v = .int .i64 i, fun v _ => v = .int .u8 c, Nr.RP H P R]
theorem Nr.relR_up (r H i : Nat) (v1 v2 : Value) (s : ByteArray) (c : Nat) (P R : Nat → Prop) : Rg.Ups (Nr.relR r H i v1 v2 s c P R) := by
  refine ⟨?_, ?_, ?_, ?_, ?_, ?_, trivial⟩
  all_goals intro v w w' h hb
  · exact h
  · exact h
  · exact h
  · exact h
  · exact h
  · obtain ⟨v3, v4, os, rs, e, h1, h2, h3, h4⟩ := h
    exact ⟨v3, v4, os, rs, e, h1.up hb, h2.up hb, h3, h4⟩
set_option maxRecDepth 100000 in
set_option maxHeartbeats 3000000 in
theorem refRun_any (w : World) (r : Nat) (l : List Rx) {vS vA v2 v3 : Value} {As : List (Value × Value)} {Ls : List (List Int × List Int)} {so sr : List Int} (H : Nr.Mc w r l vS vA v2 v3 As Ls so sr) (hl : Nf.onesL l ≤ 2000) (hll : l.length ≤ 1000) (s : ByteArray) (hs : s.size ≤ maxLen) : Calls Try.prog 22 #[.pointer (some ⟨r, 0, none⟩), .string s] w (Ng.FP w (fun _ => True) (Nf.fro l (Px.by s) s.size) (Nf.frr l (Px.by s) s.size)) := by
  unfold maxLen at hs
  obtain ⟨a1, n1, c1, rfl⟩ := H.r2.form
  obtain ⟨a2, n2, c2, rfl⟩ := H.r3.form
  have B1 := Bs.below1 w (.cells #[.slice none 0 0, .slice none 0 0] 37)
  have X1 := Nf.fb_new w (.slice none 0 0) (.slice none 0 0) 37
  have s1 : (w.alloc (.cells #[.slice none 0 0, .slice none 0 0] 37)).heap.size = w.heap.size + 1 := by simp
  have B2 := Bs.below1 (w.alloc (.cells #[.slice none 0 0, .slice none 0 0] 37)) (.cells #[.slice a1 n1 c1, .slice a2 n2 c2] 37)
  have X2 := Nf.fb_new (w.alloc (.cells #[.slice none 0 0, .slice none 0 0] 37)) (.slice a1 n1 c1) (.slice a2 n2 c2) 37
  rw [s1] at X2
  have hN : ∀ k, (True ∧ k < w.heap.size) → Nr.ne2 w.heap.size k := fun k hk => ⟨by omega, by omega⟩
  have W0 := Lib.hid (show Nr.RW w (.slice a1 n1 c1) (.slice a2 n2 c2) so sr _ from ⟨Bs.below_up B1 B2, X1.up B2, X2, ((H.r2.lt.mono hN).up B1).up B2, ((H.r3.lt.mono hN).up B1).up B2⟩)
  have c2' := (H.up B1).c2; have c3' := (H.up B1).c3
  have H4 := Lib.hid H.sp.so
  have H5 := Lib.hid H.sp.sr
  have HM0 := Lib.hid H
  clear B1 X1 s1 B2 X2 hN H
  go_enter Try.func22, Try.ntmps22
  go_wp2_with fail
  clear c2' c3'
  generalize (w.alloc (.cells #[.slice none 0 0, .slice none 0 0] 37)).alloc (.cells #[.slice a1 n1 c1, .slice a2 n2 c2] 37) = U at *
  go_loopw [6] (fun i wr => ∃ (q : Nat) (v1 v2 : Value) (os rs : List Int), q ≤ s.size ∧ i = .int .i64 q ∧ Hid (Nr.RW w v1 v2 os rs wr) ∧ Hid (Nf.Rise os (Nf.fro l (Px.by s) q)) ∧ Hid (Nf.Rise rs (Nf.frr l (Px.by s) q))) (fun i _ => s.size - (intOf i).toNat)
  case atStart => exact ⟨0, _, _, so, sr, by omega, rfl, W0, H4, H5⟩
  case round =>
    clear W0 H4 H5
    obtain ⟨q, v1, v2, os, rs, hq, rfl, HW, H4, H5⟩ := hrel
    obtain ⟨a1, n1, c1, rfl⟩ := HW.out.r1.form
    obtain ⟨a2, n2, c2, rfl⟩ := HW.out.r2.form
    by_cases hlt : q < s.size
    · have hos : os.length ≤ 1000000 := by
        have := Nr.row_len H4.out (m := 2000) (fun k h2 => by
          have h4 : k < Nf.onesL l := by
            cases q with
            | zero => obtain ⟨r, h2⟩ := h2; exact (Ng.rfst_lt _ _ _ h2).2
            | succ q => obtain ⟨_, _, _, h2⟩ := h2; exact (Nf.folA_lt _ _ _ h2).2
          omega)
        omega
      have hby : Px.by s q = s[q].toNat := by
        unfold Px.by
        rw [List.getD_eq_getElem?_getD, List.getElem?_eq_getElem (by simpa using hlt)]
        simp; rfl
      have HBY := Lib.hid hby
      have hc : s[q].toNat < 256 := s[q].toNat_lt
      have HO := Lib.hid (show ∀ p, (∃ k : Nat, (k : Int) ∈ os ∧ Nf.onL l k s[q].toNat ∧ Nf.folA l k p) ↔ Nf.fro l (Px.by s) (q + 1) p from fun p => by
        simp only [Nf.fro, hby]
        exact ⟨fun ⟨k, h1, h2, h3⟩ => ⟨k, (H4.out.is k).1 h1, h2, h3⟩, fun ⟨k, h1, h2, h3⟩ => ⟨k, (H4.out.is k).2 h1, h2, h3⟩⟩)
      have HR := Lib.hid (show ∀ p, (∃ k : Nat, (k : Int) ∈ os ∧ Nf.onL l k s[q].toNat ∧ Nf.rlst l p k) ↔ Nf.frr l (Px.by s) (q + 1) p from fun p => by
        simp only [Nf.frr, hby]
        exact ⟨fun ⟨k, h1, h2, h3⟩ => ⟨k, (H4.out.is k).1 h1, h2, h3⟩, fun ⟨k, h1, h2, h3⟩ => ⟨k, (H4.out.is k).2 h1, h2, h3⟩⟩)
      have i1 : (0 : Int) ≤ (q : Int) := by omega
      have i2 : (q : Int) < (s.size : Int) := by omega
      clear hby
      go_upto_region 5 with fail
      refine Rg.regionT (by kernel_rfl) (by kernel_rfl) (by kernel_rfl) (by decide) (Rg.rel (Nr.relR r w.heap.size q (.slice a1 n1 c1) (.slice a2 n2 c2) s s[q].toNat (Nf.fro l (Px.by s) (q + 1)) (Nf.frr l (Px.by s) (q + 1)))) (Nr.RW w (.slice a1 n1 c1) (.slice a2 n2 c2) os rs) (fun w w' => Below w.heap.size w w') (fun i v w w' h _ hb => Rg.rel_up (Nr.relR_up _ _ _ _ _ _ _ _ _) h hb) (HW.out.up (Below.refl _ _).drew) ⟨?_, ?_, ?_, ?_, ?_, ?_, trivial⟩ ?_
      · intro fv u hw hd
        have HU := Lib.hid hw
        clear hw hd
        simp only [Rg.step, Rg.all, Act.put, List.setIfInBounds_toArray, List.set_cons_zero, List.set_cons_succ]
        go_simp
        exact ⟨rfl, HU.out, Below.refl _ _⟩
      · intro fv u hw hd
        have d0 := hw.f.c0; have d1 := hw.f.c1
        have HU := Lib.hid hw
        clear hw hd
        simp only [Rg.step, Rg.all, Act.put, List.setIfInBounds_toArray, List.set_cons_zero, List.set_cons_succ]
        go_simp
        exact ⟨rfl, HU.out, Below.refl _ _⟩
      · intro fv u hw hd
        have HU := Lib.hid hw
        clear hw hd
        simp only [Rg.step, Rg.all, Act.put, List.setIfInBounds_toArray, List.set_cons_zero, List.set_cons_succ]
        go_simp
        exact ⟨rfl, HU.out, Below.refl _ _⟩
      · intro fv u hw hd
        have HU := Lib.hid hw
        clear hw hd
        simp only [Rg.step, Rg.all, Act.put, List.setIfInBounds_toArray, List.set_cons_zero, List.set_cons_succ]
        go_simp
        exact ⟨rfl, HU.out, Below.refl _ _⟩
      · intro fv u hw hd
        have r2 : fv 2 = .string s := hd _ (List.mem_cons_self ..)
        have r3 : fv 3 = .int .i64 q := hd _ (List.mem_cons_of_mem _ (List.mem_cons_self ..))
        have HU := Lib.hid hw
        clear hw hd
        simp only [Rg.step, Rg.all, Act.put, List.setIfInBounds_toArray, List.set_cons_zero, List.set_cons_succ]
        go_simp
        exact ⟨rfl, HU.out, Below.refl _ _⟩
      · intro fv u hw hd
        have r0 : fv 0 = .pointer (some ⟨r, 0, none⟩) := hd _ (List.mem_cons_self ..)
        have r1 : fv 1 = .agg #[.slice a1 n1 c1, .slice a2 n2 c2] := hd _ (List.mem_cons_of_mem _ (List.mem_cons_self ..))
        have r4 : fv 4 = .int .u8 s[q].toNat := hd _ (List.mem_cons_of_mem _ (List.mem_cons_of_mem _ (List.mem_cons_self ..)))
        have ub := hw.f.lt
        have C := Lib.hid (refStep_any u r l (HM0.out.up hw.bel) hl hll os _ (.slice a2 n2 c2) (hw.r1.mono (fun _ _ => trivial)) ⟨_, _, _, rfl⟩ hos s[q].toNat hc)
        have HU := Lib.hid hw
        clear hw hd
        simp only [Rg.step, Rg.all, Act.put, List.setIfInBounds_toArray, List.set_cons_zero, List.set_cons_succ]
        go_simp
        refine C.out.mono ?_
        rintro e u1 ⟨os', rs', ⟨v3, v4, rfl, R3, R4, b3⟩, h6, h7⟩
        exact ⟨_, rfl, ⟨v3, v4, os', rs', rfl, R3.mono (fun k hk => ⟨by omega, by omega⟩), R4.mono (fun k hk => ⟨by omega, by omega⟩), h6.congr HO.out, h7.congr HR.out⟩, HU.out.up b3, b3⟩
      · intro fv u hw hR o ho
        obtain ⟨v3, v4, os', rs', r5, R3, R4, h6, h7⟩ : Nr.RP w.heap.size (Nf.fro l (Px.by s) (q + 1)) (Nf.frr l (Px.by s) (q + 1)) (fv 5) u := hR 5 (by decide)
        obtain ⟨a3, n3, c3, rfl⟩ := R3.form
        obtain ⟨a4, n4, c4, rfl⟩ := R4.form
        simp at ho
        subst ho
        simp only [Rg.step, Rg.all, Act.put, List.setIfInBounds_toArray, List.set_cons_zero, List.set_cons_succ]
        have HR7 := Lib.hid (hw.put R3 R4)
        have g0 := hw.f.c0; have g1 := hw.f.c1
        have y0 := hw.f.z0; have y1 := hw.f.z1
        have H6 := Lib.hid h6
        have H7 := Lib.hid h7
        clear hw hR R3 R4 h6 h7
        go_simp
        go_wp2_with fail
        go_roundw
        case rel => exact ⟨q + 1, _, _, os', rs', by omega, by go_num, HR7, H6, H7⟩
        case measure => simp [intOf]; omega
    · have hqe : q = s.size := by omega
      rw [hqe] at H4 H5
      have HO := Lib.hid (HW.out.out H4.out H5.out)
      have p0 := HW.out.f.c0; have p1 := HW.out.f.c1
      have y0 := HW.out.res.c0; have y1 := HW.out.res.c1; have z0 := HW.out.res.z0; have z1 := HW.out.res.z1
      have V := Lib.hid ((HW.out.res.set0 (.slice a1 n1 c1)).set1 (.slice a2 n2 c2))
      clear hqe
      go_wp2_with fail
      have v0 := V.out.c0; have v1 := V.out.c1
      refine bodyPost_ret (v := .agg #[.slice a1 n1 c1, .slice a2 n2 c2]) (by simp [results, Try.results22, go_sem, v0, v1]) rfl HO.out
end Go.Proofs.Ytnbbepgjpfhjdaa
