/- What the document's Next answers, walked. What the document's All answers, and the program's Whole, walked. The chapter's example of layer 9, plain; pieces by a planned table. The chapter's example of layer 9, walked. -/
import Derived.Test.YthapedadnbkgnaaG31
import Derived.Test.YthapedadnbkgnaaG32
namespace Go.Proofs.Ythapedadnbkgnaa
set_option linter.unusedVariables false
set_option linter.unusedSimpArgs false
open Go.RowKit
theorem Sc.sub_by (s : ByteArray) {a q : Nat} (h : a + q ≤ s.size) : (s.extract a (a + q)).size = q ∧ ∀ i, i < q → Px.by (s.extract a (a + q)) i = Sc.sh (Px.by s) a i := by
  have hsz : (s.extract a (a + q)).size = q := by rw [ByteArray.size_extract]; omega
  refine ⟨hsz, fun i hi => ?_⟩
  unfold Sc.sh
  rw [Df.by_at _ _ (by rw [hsz]; exact hi), Df.by_at s (a + i) (by omega), ByteArray.getElem_extract]
theorem Sc.sub_rn (s : ByteArray) {a q : Nat} (h : a + q ≤ s.size) (g : Nat → Nat) (N : List (List Int)) : Df.rn g N (Px.by (s.extract a (a + q))) (s.extract a (a + q)).size = Df.rn g N (Sc.sh (Px.by s) a) q := by
  obtain ⟨h1, h2⟩ := Sc.sub_by s h
  rw [h1]
  exact Df.rn_congr g N q h2
structure Sc.NW (w0 : World) (b rb xb : Nat) (D : Array Value) (g : Nat → Nat) (N : List (List Int)) (R : List Int) (x : Sc.Lx) (u : World) : Prop where
  aw : Df.AW w0 b D g N R u
  m0 : Sc.LB u rb ⟨0, 0, 0, 0⟩
  m1 : Sc.LB u xb x
theorem Sc.NW.up {w0 : World} {b rb xb : Nat} {D : Array Value} {g : Nat → Nat} {N : List (List Int)} {R : List Int} {x : Sc.Lx} {u u' : World} (h : Sc.NW w0 b rb xb D g N R x u) (hb : Below u.heap.size u u') : Sc.NW w0 b rb xb D g N R x u' :=
  ⟨h.aw.up hb, h.m0.up hb, h.m1.up hb⟩
def Sc.relN (D : Array Value) (s : ByteArray) (a k : Int) (t : ByteArray) (K : Int) : List (Value → World → Prop) :=
  [fun v _ => v = .agg D, fun v _ => v = .string s, fun v _ => v = .int .i64 a, fun v _ => v = .int .i64 k, fun v _ => v = .string t, fun v _ => v = .int .i64 K, fun v _ => v = .int .i64 K]
theorem Sc.relN_up (D : Array Value) (s : ByteArray) (a k : Int) (t : ByteArray) (K : Int) : Rg.Ups (Sc.relN D s a k t K) := by
  refine ⟨?_, ?_, ?_, ?_, ?_, ?_, ?_, trivial⟩ <;> exact fun v w w' h _ => h
def Sc.hd (g : Nat → Nat) (N : List (List Int)) (R : List Int) (b : Nat → Nat) (a n q : Nat) : Sc.Lx := ⟨(Sc.good g N R (Sc.sh b a) (q - 1)).1, a, ((a + (Sc.good g N R (Sc.sh b a) (q - 1)).2 : Nat) : Int), (n : Int) + 1⟩
theorem Sc.hd_best (g : Nat → Nat) (N : List (List Int)) (R : List Int) (b : Nat → Nat) (a n q : Nat) : (Sc.hd g N R b a n (q + 1)).rule = (Sc.best g N R b a q).rule ∧ (Sc.hd g N R b a n (q + 1)).at' = (Sc.best g N R b a q).at' ∧ (Sc.hd g N R b a n (q + 1)).upto = (Sc.best g N R b a q).upto := ⟨rfl, rfl, rfl⟩
theorem Sc.hd_hit {g : Nat → Nat} {N : List (List Int)} {R : List Int} {b : Nat → Nat} {a q : Nat} {x : Int} (n : Nat) (h : Sc.good g N R (Sc.sh b a) (q + 1) = (x, q + 1)) : Sc.hd g N R b a n (q + 1 + 1) = ⟨x, a, ((a + (q + 1) : Nat) : Int), (n : Int) + 1⟩ := by
  unfold Sc.hd
  rw [Nat.add_sub_cancel, h]
theorem Sc.hd_miss {g : Nat → Nat} {N : List (List Int)} {R : List Int} {b : Nat → Nat} {a q : Nat} (n : Nat) (h : Sc.good g N R (Sc.sh b a) (q + 1) = Sc.good g N R (Sc.sh b a) q) : Sc.hd g N R b a n (q + 1 + 1) = Sc.hd g N R b a n (q + 1) := by
  unfold Sc.hd
  rw [Nat.add_sub_cancel, Nat.add_sub_cancel, h]
set_option maxRecDepth 100000 in
set_option maxHeartbeats 4000000 in
theorem refNextT_any (g : Nat → Nat) (N : List (List Int)) (R : List Int) (v : Value) (s : ByteArray) (at' : Nat) (w : World) (h : Df.Tv w v g N R) (hrt : Df.rt g N R = true) (hs : s.size < maxLen) (hat : at' ≤ s.size) :
    Calls Try.prog 15 #[v, .string s, .int .i64 at'] w fun e w' => e = .returned (.agg (Sc.val (Sc.px g N R (Px.by s) s.size at'))) ∧ Below w.heap.size w w' := by
  have hs63 : s.size < 9223372036854775807 := hs
  have HSM := Lib.hid hs
  have HRT := Lib.hid (Df.rt_of hrt)
  have HRR := Lib.hid hrt
  have HT := Lib.hid h
  obtain ⟨t1, m1', q1, rows, t2, m2', q2, rfl, _, _⟩ := h.is
  unfold Df.tab at HT ⊢
  have hsz : (Bs.arr g ++ #[Value.slice t1 m1' q1, Value.slice t2 m2' q2]).size = 258 := by rw [Array.size_append, Bs.arr_size]; rfl
  have h257 : (Bs.arr g ++ #[Value.slice t1 m1' q1, Value.slice t2 m2' q2])[257]? = some (.slice t2 m2' q2) := by
    rw [Array.getElem?_append_right (by rw [Bs.arr_size]; omega), Bs.arr_size]; rfl
  have hrl : ∀ u, Df.Tv u (.agg (Bs.arr g ++ #[Value.slice t1 m1' q1, Value.slice t2 m2' q2])) g N R → Nf.Row u (fun _ => True) (.slice t2 m2' q2) R := by
    intro u hu
    obtain ⟨t1', m1'', q1', rows', t2', m2'', q2', e, _, _, _, h4⟩ := hu.is
    unfold Df.tab at e
    injection e with e
    have := congrArg (fun D : Array Value => D[257]?) e
    simp only [h257] at this
    rw [Array.getElem?_append_right (by rw [Bs.arr_size]; omega), Bs.arr_size] at this
    simp at this
    rw [this.1, this.2.1, this.2.2]
    exact h4
  generalize Bs.arr g ++ #[Value.slice t1 m1' q1, Value.slice t2 m2' q2] = D at *
  have HDI := Lib.hid (show (Try.prog.info? 40).map (·.size) = some D.size by rw [hsz]; exact Df.zero258.2)
  have HRL := Lib.hid hrl
  have HDA := Lib.hid h257
  have HR2 := Lib.hid (show R.length = m2' by
    obtain ⟨_, _, e, _⟩ := hrl w HT.out
    injection e with _ e2 _
    exact e2.symm)
  clear h hrl hrt hs h257
  have HA0 := Lib.hid (Df.aw_new HT.out)
  have e1 : (w.alloc (.cells D 40)).heap.size = w.heap.size + 1 := by simp
  have T2 : Hid (Sc.NW w w.heap.size (w.heap.size + 1) (w.heap.size + 1 + 1) D g N R (Sc.hd g N R (Px.by s) at' s.size 0) (((w.alloc (.cells D 40)).alloc (.cells (Sc.val ⟨0, 0, 0, 0⟩) 47)).alloc (.cells (Sc.val ⟨-1, at', at', (s.size : Int) + 1⟩) 47))) := Lib.hid (by
    have b1 := Bs.below1 (w.alloc (.cells D 40)) (.cells (Sc.val ⟨0, 0, 0, 0⟩) 47)
    have b2 := Bs.below1 ((w.alloc (.cells D 40)).alloc (.cells (Sc.val ⟨0, 0, 0, 0⟩) 47)) (.cells (Sc.val ⟨-1, at', at', (s.size : Int) + 1⟩) 47)
    have l1 := Sc.lb_new (w.alloc (.cells D 40)) ⟨0, 0, 0, 0⟩
    have l2 := Sc.lb_new ((w.alloc (.cells D 40)).alloc (.cells (Sc.val ⟨0, 0, 0, 0⟩) 47)) ⟨-1, at', at', (s.size : Int) + 1⟩
    have e2 : ((w.alloc (.cells D 40)).alloc (.cells (Sc.val ⟨0, 0, 0, 0⟩) 47)).heap.size = w.heap.size + 1 + 1 := by simp
    rw [e1] at l1
    rw [e2] at l2
    exact ⟨(HA0.out.up b1).up b2, l1.up b2, l2⟩)
  clear HA0 e1
  unfold Sc.val at T2
  have hwn : IntKind.i64.wrap ((s.size : Int) + 1) = (s.size : Int) + 1 := IntWalk.i64_in _ (by omega)
  have n1' : w.heap.size ≠ w.heap.size + 1 := by omega
  have n2' : w.heap.size ≠ w.heap.size + 1 + 1 := by omega
  have n3' : w.heap.size + 1 ≠ w.heap.size + 1 + 1 := by omega
  have g1 : w.heap.size ≤ w.heap.size + 1 := by omega
  have g2 : w.heap.size ≤ w.heap.size + 1 + 1 := by omega
  go_enter Try.func15, Try.ntmps15
  go_wp2_with fail
  go_loopg [8] (s.size - at' + 1) (fun gk v8 wr => ∃ q : Nat, at' + q + gk = s.size + 1 ∧ v8 = .int .i64 ((at' + q : Nat) : Int) ∧ Hid (0 < q → 0 ≤ Df.rn g N (Sc.sh (Px.by s) at') (q - 1)) ∧ Hid (Sc.NW w w.heap.size (w.heap.size + 1) (w.heap.size + 1 + 1) D g N R (Sc.hd g N R (Px.by s) at' s.size q) wr))
  case atStart => exact ⟨0, by omega, rfl, Lib.hid (fun h => by omega), T2⟩
  case round =>
    clear T2
    obtain ⟨q, hq, rfl, HLV, HW⟩ := hrel
    by_cases hle : at' + q ≤ s.size
    case neg =>
      obtain ⟨p, rfl⟩ : ∃ p, q = p + 1 := ⟨q - 1, by omega⟩
      have HV := Lib.hid (Sc.px_end (R := R) (b := Px.by s) (n := s.size) (q := p) (by have := HLV.out (by omega); simpa using this) (by omega))
      obtain ⟨z1, z2, z3⟩ := Sc.hd_best g N R (Px.by s) at' s.size p
      rw [← z1, ← z2, ← z3] at HV
      clear z1 z2 z3
      have HSE := Lib.hid (show (Sc.hd g N R (Px.by s) at' s.size (p + 1)).seen = (s.size : Int) + 1 from rfl)
      have hps : at' + p = s.size := by omega
      generalize Sc.hd g N R (Px.by s) at' s.size (p + 1) = x at *
      obtain ⟨m0, m1, m2, m3⟩ := HW.out.m1.cells
      obtain ⟨r0, r1, r2, r3⟩ := HW.out.m0.cells
      have fr0 := HW.out.m0.frz 0; have fr1 := HW.out.m0.frz 1; have fr2 := HW.out.m0.frz 2; have fr3 := HW.out.m0.frz 3
      have d1 : decide (((at' + (p + 1) : Nat) : Int) ≤ (s.size : Int)) = false := decide_eq_false (by omega)
      have d2 : decide ((at' : Int) + ((p : Int) + 1) ≤ (s.size : Int)) = false := decide_eq_false (by omega)
      go_wp2_with fail
      refine bodyPost_ret (v := .agg #[.int .i64 x.rule, .int .i64 x.at', .int .i64 x.upto, .int .i64 x.seen]) ?_ rfl ⟨?_, ?_⟩
      · simp [results, Try.results15, go_sem, r0, r1, r2, r3]
      · rw [HV.out, HSE.out, hps]
        rfl
      · exact (((HW.out.aw.bel.setCell g1 _).setCell g1 _).setCell g1 _).setCell g1 _
    case pos =>
      have d1 : decide (((at' + q : Nat) : Int) ≤ (s.size : Int)) = true := decide_eq_true (by omega)
      have d2 : decide ((at' : Int) + (q : Int) ≤ (s.size : Int)) = true := decide_eq_true (by omega)
      obtain ⟨K, hK⟩ : ∃ K, Df.rn g N (Sc.sh (Px.by s) at') q = K := ⟨_, rfl⟩
      have HK := Lib.hid hK
      have hrn := HRT.out.rn (b := Sc.sh (Px.by s) at') (fun i => Df.by_lt s (at' + i)) q
      rw [hK] at hrn
      have HC := Lib.hid (fun u (hu : Df.Tv u (.agg D) g N R) => show Calls Try.prog 36 #[.agg D, .string (s.extract at' (at' + q))] u fun e w' => e = .returned (.int .i64 K) ∧ Below u.heap.size u w' from by
        have := refRunT_any g N R (.agg D) (s.extract at' (at' + q)) u hu HRR.out (by rw [(Sc.sub_by s hle).1]; have := HSM.out; omega)
        rwa [Sc.sub_rn s hle g N, hK] at this)
      have i1 : (0 : Int) ≤ (at' : Int) := by omega
      have i2 : (at' : Int) ≤ (at' : Int) + (q : Int) := by omega
      have i3 : (at' : Int) + (q : Int) ≤ (s.size : Int) := by omega
      have i4 : (0 : Int) ≤ (at' : Int) + (q : Int) := by omega
      have i5 : ((at' : Int) + (q : Int)).toNat = at' + q := by omega
      have i6 : (at' : Int) ≤ ((at' + q : Nat) : Int) := by omega
      have i7 : ((at' + q : Nat) : Int) ≤ (s.size : Int) := by omega
      clear hK
      go_upto_region 5 with fail
      clear d1 d2
      refine Rg.regionW (by kernel_rfl) (by kernel_rfl) (Rg.rel (Sc.relN D s at' ((at' : Int) + (q : Int)) (s.extract at' (at' + q)) K)) (Sc.NW w w.heap.size (w.heap.size + 1) (w.heap.size + 1 + 1) D g N R (Sc.hd g N R (Px.by s) at' s.size q)) (fun w w' => Below w.heap.size w w') (fun i v w w' h _ hb => Rg.rel_up (Sc.relN_up _ _ _ _ _ _) h hb) (HW.out.up (Below.refl _ _).drew) ⟨?_, ?_, ?_, ?_, ?_, ?_, ?_, trivial⟩ ?_
      · intro f' u hw hd
        have HU := Lib.hid hw
        clear hw hd
        simp only [Rg.all, Act.put, List.setIfInBounds_toArray, List.set_cons_zero, List.set_cons_succ]
        exact Df.step_load 40 (.tmp 3) rfl w.heap.size rfl 40 D (0, 0) _ HU.out.aw.row Try.underlying40 rfl HDI.out ⟨rfl, HU.out, Below.refl _ _⟩
      · intro f' u hw hd
        have HU := Lib.hid hw
        clear hw hd
        simp only [Rg.step, Rg.all, Act.put, List.setIfInBounds_toArray, List.set_cons_zero, List.set_cons_succ]
        go_simp
        exact ⟨rfl, HU.out, Below.refl _ _⟩
      · intro f' u hw hd
        have HU := Lib.hid hw
        clear hw hd
        simp only [Rg.step, Rg.all, Act.put, List.setIfInBounds_toArray, List.set_cons_zero, List.set_cons_succ]
        go_simp
        exact ⟨rfl, HU.out, Below.refl _ _⟩
      · intro f' u hw hd
        have HU := Lib.hid hw
        clear hw hd
        simp only [Rg.step, Rg.all, Act.put, List.setIfInBounds_toArray, List.set_cons_zero, List.set_cons_succ]
        go_simp
        exact ⟨rfl, HU.out, Below.refl _ _⟩
      · intro f' u hw hd
        have r1 : f' 1 = .string s := hd _ (List.mem_cons_self ..) rfl
        have r2 : f' 2 = .int .i64 at' := hd _ (List.mem_cons_of_mem _ (List.mem_cons_self ..)) rfl
        have r3 : f' 3 = .int .i64 ((at' : Int) + (q : Int)) := hd _ (List.mem_cons_of_mem _ (List.mem_cons_of_mem _ (List.mem_cons_self ..))) rfl
        have HU := Lib.hid hw
        clear hw hd
        simp only [Rg.step, Rg.all, Act.put, List.setIfInBounds_toArray, List.set_cons_zero, List.set_cons_succ]
        go_simp
        exact ⟨rfl, HU.out, Below.refl _ _⟩
      · intro f' u hw hd
        have r0 : f' 0 = .agg D := hd _ (List.mem_cons_self ..) rfl
        have r4 : f' 4 = .string (s.extract at' (at' + q)) := hd _ (List.mem_cons_of_mem _ (List.mem_cons_self ..)) rfl
        have C := Lib.hid (HC.out u hw.aw.tv)
        have HU := Lib.hid hw
        clear hw hd
        simp only [Rg.step, Rg.all, Act.put, List.setIfInBounds_toArray, List.set_cons_zero, List.set_cons_succ]
        go_simp
        refine C.out.mono ?_
        rintro e u1 ⟨rfl, b3⟩
        exact ⟨_, rfl, rfl, HU.out.up b3, b3⟩
      · intro f' u hw hd
        have r5 : f' 5 = .int .i64 K := hd _ (List.mem_cons_self ..) rfl
        have HU := Lib.hid hw
        clear hw hd
        simp only [Rg.step, Rg.all, Act.put, List.setIfInBounds_toArray, List.set_cons_zero, List.set_cons_succ]
        go_simp
        exact ⟨rfl, HU.out, Below.refl _ _⟩
      intro f' u hw hR
      have r6 : f' 6 = .int .i64 K := hR 6 (by decide)
      have HU := Lib.hid hw
      clear hw hR HW HC
      simp only [Rg.all, Act.put, List.setIfInBounds_toArray, List.set_cons_zero, List.set_cons_succ, r6]
      clear r6
      obtain ⟨m0, m1, m2, m3⟩ := HU.out.m1.cells
      obtain ⟨r0, r1, r2, r3⟩ := HU.out.m0.cells
      have fr0 := HU.out.m0.frz 0; have fr1 := HU.out.m0.frz 1; have fr2 := HU.out.m0.frz 2; have fr3 := HU.out.m0.frz 3
      have fm0 := HU.out.m1.frz 0; have fm2 := HU.out.m1.frz 2; have fm3 := HU.out.m1.frz 3
      have x257 := HU.out.aw.cell HDA.out
      have hw1 : IntKind.i64.wrap (((at' + q : Nat) : Int) + 1) = ((at' + (q + 1) : Nat) : Int) := by rw [IntWalk.i64_in _ (by omega)]; omega
      have hw2 : IntKind.i64.wrap ((at' : Int) + (q : Int) + 1) = (at' : Int) + ((q : Int) + 1) := by rw [IntWalk.i64_in _ (by omega)]; omega
      clear i1 i2 i3 i4 i5 i6 i7 hwn
      by_cases hK0 : 0 ≤ K
      case neg =>
        have d1 : decide (K < 0) = true := decide_eq_true (by omega)
        obtain ⟨p, rfl⟩ : ∃ p, q = p + 1 := ⟨q - 1, by
          have : q ≠ 0 := fun e => by
            subst e
            have := HK.out
            simp only [Df.rn] at this
            omega
          omega⟩
        have hst : Sc.stop g N (Sc.sh (Px.by s) at') (p + 1) = p + 1 := by rw [Sc.stop, if_pos (by have := HLV.out (by omega); simpa using this)]
        have hgo := Sc.good_out (R := R) (g := g) (N := N) (b := Sc.sh (Px.by s) at') (q := p) (by rw [HK.out]; omega)
        have hv := Sc.px_dead (R := R) (b := Px.by s) (n := s.size) (a := at') (q := p + 1) (by rw [HK.out]; omega) hle hst
        have eb : Sc.best g N R (Px.by s) at' (p + 1) = Sc.best g N R (Px.by s) at' p := by unfold Sc.best; rw [hgo]
        rw [eb] at hv
        obtain ⟨z1, z2, z3⟩ := Sc.hd_best g N R (Px.by s) at' s.size p
        rw [← z1, ← z2, ← z3] at hv
        have HV := Lib.hid hv
        clear z1 z2 z3 hv eb hgo hst hrn
        generalize Sc.hd g N R (Px.by s) at' s.size (p + 1) = x at *
        go_wp2_with fail
        refine bodyPost_ret (v := .agg #[.int .i64 x.rule, .int .i64 x.at', .int .i64 x.upto, .int .i64 ((at' + (p + 1) : Nat) : Int)]) ?_ rfl ⟨by rw [HV.out], ?_⟩
        · simp [results, Try.results15, go_sem, r0, r1, r2, r3]
        · exact ((((HU.out.aw.bel.setCell g2 _).setCell g1 _).setCell g1 _).setCell g1 _).setCell g1 _
      case pos =>
        obtain ⟨k', rfl⟩ := Int.eq_ofNat_of_zero_le hK0
        have hkN : k' < N.length := by omega
        have hkR : k' < R.length := by rw [HRT.out.rl]; exact hkN
        have d1 : decide ((k' : Int) < 0) = false := decide_eq_false (by omega)
        have HLV2 : Hid (0 < q + 1 → 0 ≤ Df.rn g N (Sc.sh (Px.by s) at') (q + 1 - 1)) := Lib.hid (fun _ => by rw [Nat.add_sub_cancel, HK.out]; omega)
        cases q with
        | zero =>
          have d2 : decide (((at' + 0 : Nat) : Int) > (at' : Int)) = false := decide_eq_false (by omega)
          have d3 : decide ((at' : Int) < ((at' + 0 : Nat) : Int)) = false := decide_eq_false (by omega)
          go_wp2_with fail
          go_roundg (gk - 1)
          case measure => omega
          exact ⟨0 + 1, by omega, by first | rfl | (congr 1), HLV2, HU⟩
        | succ p =>
          have hk2 : k' < m2' := by rw [← HR2.out]; exact hkR
          obtain ⟨a9, c9, e9, _, _, hs9, _⟩ := HRL.out u HU.out.aw.tv
          obtain ⟨ad9, e8, hr9⟩ := hs9 k' hkR
          rw [e8] at e9
          injection e9 with e9 e9a e9b
          subst e9
          clear hs9 e8 e9a e9b
          have HRX := Lib.hid (show R.getD k' (-1) = R[k'] from Df.getD_get R (-1) hkR)
          generalize R[k'] = x at *
          have i1 : (0 : Int) ≤ (k' : Int) := by omega
          have i2 : (k' : Int) < (m2' : Int) := by omega
          have d2 : decide (((at' + (p + 1) : Nat) : Int) > (at' : Int)) = true := decide_eq_true (by omega)
          have d3 : decide ((at' : Int) < (at' : Int) + ((p : Int) + 1)) = true := decide_eq_true (by omega)
          have d4 : decide ((at' : Int) + ((p : Int) + 1) > (at' : Int)) = true := decide_eq_true (by omega)
          by_cases hx0 : 0 ≤ x
          case neg =>
            have d5 : decide (x ≥ 0) = false := decide_eq_false hx0
            have d6 : decide (0 ≤ x) = false := decide_eq_false hx0
            have HG := Lib.hid (Sc.hd_miss s.size (Sc.good_miss HK.out HRX.out (by omega)))
            go_wp2_with fail
            go_roundg (gk - 1)
            case measure => omega
            exact ⟨p + 1 + 1, by omega, by first | rfl | (congr 1), HLV2, by rw [HG.out]; exact HU⟩
          case pos =>
            have d5 : decide (x ≥ 0) = true := decide_eq_true hx0
            have d6 : decide (0 ≤ x) = true := decide_eq_true hx0
            have HG := Lib.hid (Sc.hd_hit s.size (Sc.good_hit HK.out HRX.out hx0))
            have HH := Lib.hid (show (Sc.hd g N R (Px.by s) at' s.size (p + 1)).at' = at' ∧ (Sc.hd g N R (Px.by s) at' s.size (p + 1)).seen = (s.size : Int) + 1 from ⟨rfl, rfl⟩)
            generalize Sc.hd g N R (Px.by s) at' s.size (p + 1) = xx at *
            go_wp2_with fail
            go_roundg (gk - 1)
            case measure => omega
            refine ⟨p + 1 + 1, by omega, by first | rfl | (congr 1), HLV2, Lib.hid ⟨?_, ?_, ?_⟩⟩
            · have hb9 := (HU.out.aw.bel.setCell (p := ⟨w.heap.size + 1 + 1, 0, none⟩) g2 (.int .i64 x)).setCell (p := ⟨w.heap.size + 1 + 1, 2, none⟩) g2 (.int .i64 ((at' : Int) + ((p : Int) + 1)))
              refine ⟨?_, HT.out.up hb9, hb9⟩
              rw [Below.heap_setCell _ _ _ _ n2', Below.heap_setCell _ _ _ _ n2']
              exact HU.out.aw.row
            · exact (HU.out.m0.far n3' _).far n3' _
            · rw [HG.out]
              refine (HU.out.m1.set (i := 0) (y := ⟨x, xx.at', xx.upto, xx.seen⟩) (.int .i64 x) rfl).set (i := 2) (.int .i64 ((at' : Int) + ((p : Int) + 1))) ?_
              rw [HH.out.1, HH.out.2]
              have : ((at' + (p + 1) : Nat) : Int) = (at' : Int) + ((p : Int) + 1) := by omega
              rw [this]
              rfl
end Go.Proofs.Ythapedadnbkgnaa
namespace Go.Proofs.Ythapedadnbkgnaa
set_option linter.unusedVariables false
set_option linter.unusedSimpArgs false
open Go.RowKit
def Sc.whole (g : Nat → Nat) (N : List (List Int)) (R : List Int) (s : ByteArray) (c : Nat) : Bool := decide (c = s.size) && Df.rt g N R
end Go.Proofs.Ythapedadnbkgnaa
namespace Go.Proofs.Ythapedadnbkgnaa
set_option linter.unusedVariables false
set_option linter.unusedSimpArgs false
namespace Df
variable {l : List Rx} {F : List Fr} {nx : List (List Nat)} {r p : List Int} {st : Nat} {S : List Nat}
theorem Plan.good_step (h : Plan l F nx r p st S) {b : Nat → Nat} (hb : ∀ i, b i < 256) (q : Nat) : Sc.good (kg l) (tN p nx S) (tR r S) b (q + 1) = if 0 ≤ rle (Df.fat l b (q + 1)).2 then (rle (Df.fat l b (q + 1)).2, q + 1) else Sc.good (kg l) (tN p nx S) (tR r S) b q := by
  have hr := h.rule hb (q + 1)
  rw [Sc.good, kg_rn l _ hb]
  by_cases h0 : 0 ≤ Df.rn (kl l) (tN p nx S) b (q + 1)
  · obtain ⟨e, _⟩ := hr.2 h0
    rw [e]
    by_cases h1 : 0 ≤ rle (Df.fat l b (q + 1)).2
    · rw [if_pos ⟨h0, h1⟩, if_pos h1]
    · rw [if_neg (fun h => h1 h.2), if_neg h1]
  · have e := hr.1 (Int.not_le.1 h0)
    rw [e, if_neg (fun h => h0 h.1), if_neg (by omega)]
theorem Plan.dead_at (h : Plan l F nx r p st S) {b : Nat → Nat} (hb : ∀ i, b i < 256) {q : Nat} (hq : 0 < q) (hf : Df.fat l b q = ([], [])) : Df.rn (kg l) (tN p nx S) b q = -1 := by
  rw [kg_rn l _ hb]
  rcases h.at hb q with ⟨e, _⟩ | ⟨j, hj, _, _, e3⟩
  · exact e
  · have := e3 hq
    rw [hf, h.mem0.2.2] at this
    exact absurd rfl this
theorem Plan.live_at (h : Plan l F nx r p st S) {b : Nat → Nat} (hb : ∀ i, b i < 256) {q : Nat} (hq : 0 < q) (b' : Nat → Nat) (hb' : ∀ i, b' i < 256) (e : ∀ i, i < q → b' i = b i) (d : Nat) (hr : rle (Df.fat l b' (q + d)).2 ≠ -1) : 0 ≤ Df.rn (kg l) (tN p nx S) b q := by
  rw [kg_rn l _ hb]
  refine Int.not_lt.1 fun hlt => hr ?_
  exact (h.stop hb hq).1 hlt b' hb' e d
end Df
namespace Sc
theorem sh_lt {b : Nat → Nat} (hb : ∀ i, b i < 256) (a : Nat) : ∀ i, sh b a i < 256 := fun i => hb (a + i)
open Df
variable {l : List Rx} {F : List Fr} {nx : List (List Nat)} {r p : List Int} {st : Nat} {S : List Nat}
def aac : ByteArray := ⟨#[97, 97, 99]⟩
def aa : ByteArray := ⟨#[97, 97]⟩
theorem ex_f1 (E : Df.Ex l) (b : Nat → Nat) (h0 : b 0 = 97) : Df.fat l b 1 = ([0, 1], [1]) := by
  show sf l (b 0) (Df.s0 l) = _
  rw [h0, E.s0, E.a3]
theorem ex_f2 (E : Df.Ex l) (b : Nat → Nat) (h0 : b 0 = 97) (h1 : b 1 = 97) : Df.fat l b 2 = ([0, 1], []) := by
  show sf l (b 1) (Df.fat l b 1) = _
  rw [ex_f1 E b h0, h1, E.a2]
theorem ex_g2 (E : Df.Ex l) (b : Nat → Nat) (h0 : b 0 = 97) (h1 : b 1 = 99) : Df.fat l b 2 = ([], []) := by
  show sf l (b 1) (Df.fat l b 1) = _
  rw [ex_f1 E b h0, h1, E.n2 99 [1] (by decide) (by decide) (by decide)]
theorem ex_g1 (E : Df.Ex l) (b : Nat → Nat) (h0 : b 0 = 99) : Df.fat l b 1 = ([], []) := by
  show sf l (b 0) (Df.s0 l) = _
  rw [h0, E.s0, E.n3 99 [] (by decide) (by decide) (by decide)]
theorem ex_f3 (E : Df.Ex l) (b : Nat → Nat) (h0 : b 0 = 97) (h1 : b 1 = 97) (h2 : b 2 = 99) : Df.fat l b 3 = ([], []) := by
  show sf l (b 2) (Df.fat l b 2) = _
  rw [ex_f2 E b h0 h1, h2, E.n2 99 [] (by decide) (by decide) (by decide)]
theorem rle_one : rle [1] = 1 := by decide
theorem rle_zero : rle [0] = 0 := by decide
theorem ex_good1 (h : Plan l F nx r p st S) (E : Df.Ex l) (b : Nat → Nat) (hb : ∀ i, b i < 256) (h0 : b 0 = 97) : good (kg l) (tN p nx S) (tR r S) b 1 = (1, 1) := by
  rw [h.good_step hb 0, ex_f1 E b h0, rle_one]
  rfl
theorem ex_live1 (h : Plan l F nx r p st S) (E : Df.Ex l) (b : Nat → Nat) (hb : ∀ i, b i < 256) (h0 : b 0 = 97) : 0 ≤ Df.rn (kg l) (tN p nx S) b 1 := by
  refine h.live_at hb (by decide) b hb (fun _ _ => rfl) 0 ?_
  rw [ex_f1 E b h0, rle_one]
  decide
theorem ex_live2 (h : Plan l F nx r p st S) (E : Df.Ex l) (b : Nat → Nat) (hb : ∀ i, b i < 256) (h0 : b 0 = 97) (h1 : b 1 = 97) : 0 ≤ Df.rn (kg l) (tN p nx S) b 2 := by
  refine h.live_at hb (by decide) (fun i => if i = 2 then 98 else b i) (fun i => by split; omega; exact hb i) (fun i hi => if_neg (by omega)) 1 ?_
  have e : Df.fat l (fun i => if i = 2 then 98 else b i) (2 + 1) = ([], [0]) := by
    show sf l 98 (Df.fat l (fun i => if i = 2 then 98 else b i) 2) = _
    rw [ex_f2 E _ (by simp [h0]) (by simp [h1]), E.b2]
  rw [e, rle_zero]
  decide
theorem ex_p0 (h : Plan l F nx r p st S) (E : Df.Ex l) : pc (kg l) (tN p nx S) (tR r S) (Px.by aac) 0 3 = ⟨1, 1, 3⟩ := by
  have hb : ∀ i, sh (Px.by aac) 0 i < 256 := sh_lt (Df.by_lt aac) 0
  have f3 := ex_f3 E (sh (Px.by aac) 0) rfl rfl rfl
  have f2 := ex_f2 E (sh (Px.by aac) 0) rfl rfl
  have g3 : good (kg l) (tN p nx S) (tR r S) (sh (Px.by aac) 0) 3 = (1, 1) := by
    rw [h.good_step hb 2, f3, rle_nil, if_neg (by decide), h.good_step hb 1, f2, rle_nil, if_neg (by decide)]
    exact ex_good1 h E _ hb rfl
  have l2 := ex_live2 h E (sh (Px.by aac) 0) hb rfl rfl
  have d3 := h.dead_at hb (q := 3) (by decide) f3
  unfold pc
  rw [g3, stop, if_pos l2, d3]
  rfl
theorem ex_p1 (h : Plan l F nx r p st S) (E : Df.Ex l) : (pc (kg l) (tN p nx S) (tR r S) (Px.by aac) 1 2).rule = 1 ∧ (pc (kg l) (tN p nx S) (tR r S) (Px.by aac) 1 2).upto = 2 := by
  have hb : ∀ i, sh (Px.by aac) 1 i < 256 := sh_lt (Df.by_lt aac) 1
  have f2 := ex_g2 E (sh (Px.by aac) 1) rfl rfl
  have g2 : good (kg l) (tN p nx S) (tR r S) (sh (Px.by aac) 1) 2 = (1, 1) := by
    rw [h.good_step hb 1, f2, rle_nil, if_neg (by decide)]
    exact ex_good1 h E _ hb rfl
  unfold pc
  rw [g2]
  exact ⟨rfl, rfl⟩
theorem ex_p2 (h : Plan l F nx r p st S) (E : Df.Ex l) : pc (kg l) (tN p nx S) (tR r S) (Px.by aac) 2 1 = ⟨-1, 2, 3⟩ := by
  have hb : ∀ i, sh (Px.by aac) 2 i < 256 := sh_lt (Df.by_lt aac) 2
  have f1 := ex_g1 E (sh (Px.by aac) 2) rfl
  have g1 : good (kg l) (tN p nx S) (tR r S) (sh (Px.by aac) 2) 1 = (-1, 0) := by
    rw [h.good_step hb 0, f1, rle_nil, if_neg (by decide)]
    rfl
  have d1 := h.dead_at hb (q := 1) (by decide) f1
  unfold pc
  rw [g1, stop, if_pos (by simp [Df.rn]), d1]
  rfl
theorem ex_q0 (h : Plan l F nx r p st S) (E : Df.Ex l) : (pc (kg l) (tN p nx S) (tR r S) (Px.by aa) 0 2).seen = 3 := by
  have hb : ∀ i, sh (Px.by aa) 0 i < 256 := sh_lt (Df.by_lt aa) 0
  have l1 := ex_live1 h E (sh (Px.by aa) 0) hb rfl
  have l2 := ex_live2 h E (sh (Px.by aa) 0) hb rfl rfl
  unfold pc
  simp only []
  rw [stop, if_pos l1, if_pos l2]
theorem ex_all (h : Plan l F nx r p st S) (E : Df.Ex l) {k : List Lx} {c : Nat} (hf : Fin (kg l) (tN p nx S) (tR r S) aac k c) : k.length = 2 ∧ c = 2 := by
  unfold Fin at hf
  rw [if_pos h.rtg] at hf
  obtain ⟨h1, h2, _⟩ := hf
  have s3 : aac.size = 3 := rfl
  rw [s3] at h1 h2
  have e0 := ex_p0 h E
  have e1 := ex_p1 h E
  have e2 := ex_p2 h E
  have o0 : On (kg l) (tN p nx S) (tR r S) (Px.by aac) 3 0 := ⟨by decide, by rw [e0]; decide⟩
  have o1 : On (kg l) (tN p nx S) (tR r S) (Px.by aac) 3 1 := ⟨by decide, by rw [e1.1]; decide⟩
  have o2 : ¬ On (kg l) (tN p nx S) (tR r S) (Px.by aac) 3 2 := fun h => by
    have := h.2
    rw [e2] at this
    exact absurd this (by decide)
  have hch : Ch (kg l) (tN p nx S) (tR r S) (Px.by aac) 3 0 [px (kg l) (tN p nx S) (tR r S) (Px.by aac) 3 0, px (kg l) (tN p nx S) (tR r S) (Px.by aac) 3 1] 2 := by
    refine ⟨o0, rfl, ?_⟩
    rw [show (pc (kg l) (tN p nx S) (tR r S) (Px.by aac) 0 (3 - 0)).upto = 1 by rw [e0]]
    refine ⟨o1, rfl, ?_⟩
    exact e1.2
  obtain ⟨rfl, rfl⟩ := Ch.one h1 h2 hch o2
  exact ⟨rfl, rfl⟩
end Sc
end Go.Proofs.Ythapedadnbkgnaa
namespace Go.Proofs.Ythapedadnbkgnaa
set_option linter.unusedVariables false
set_option linter.unusedSimpArgs false
open Go.RowKit
theorem Sc.ex_read {xs : List Rx} (h : Sc.Read [⟨#[97, 42, 98]⟩, ⟨#[97]⟩] xs) : Df.Ex xs ∧ Ng.code xs = 0 := by
  obtain ⟨hl, H⟩ := h
  match xs, hl, H with
  | [y1, y2], _, H =>
    have h1 := H 0 (by decide) (by simp)
    have h2 := H 1 (by decide) (by simp)
    have a1 := Df.ex_ab
    have a2 := Df.ex_a
    have e1 : Px.parse ⟨#[97, 42, 98]⟩ = some y1 := h1.2.1
    have e2 : Px.parse ⟨#[97]⟩ = some y2 := h2.2.1
    rw [e1] at a1
    rw [e2] at a2
    refine ⟨Df.ex a1 a2, ?_⟩
    have hs := Ng.ex_size (Df.ab_of a1) (Df.a_of a2)
    have m1 : y1.may 1 = true := h1.2.2
    have m2 : y2.may 1 = true := h2.2.2
    simp [Ng.code, hs, m1, m2]
theorem Sc.ex_no (h : Sc.No [⟨#[97, 42, 98]⟩, ⟨#[97]⟩]) : False := by
  rcases h with ⟨i, hi, h⟩ | ⟨xs, hr, h⟩
  · match i, hi with
    | 0, _ => exact h Ng.ex_code1
    | 1, _ => exact h Ng.ex_code2
  · obtain ⟨E, hc⟩ := Sc.ex_read hr
    rcases h with h | ⟨n, h⟩
    · exact h hc
    · have := E.few n
      omega
set_option maxRecDepth 100000 in
set_option maxHeartbeats 4000000 in
theorem alive9_any (w : World) : Calls Try.prog 12 #[] w (Bs.BPost w true) := by
  have B0 := Bs.below1 w (.cells #[.string ⟨#[97, 42, 98]⟩, .string ⟨#[97]⟩] 9)
  have C := Lib.hid (table9_any [⟨#[97, 42, 98]⟩, ⟨#[97]⟩] (fun t ht => by simp at ht; rcases ht with rfl | rfl <;> decide) (by decide) (some ⟨w.heap.size, 0, none⟩) 2 (w.alloc (.cells #[.string ⟨#[97, 42, 98]⟩, .string ⟨#[97]⟩] 9)) (fun i hi => ⟨_, rfl, by
    match i, hi with
    | 0, _ => simp [go_sem]
    | 1, _ => simp [go_sem]⟩))
  have HB0 := Lib.hid B0
  have zz := Df.zero258.1
  clear B0
  go_enter Try.func12, Try.ntmps12
  go_wp2_with fail
  refine C.out.mono ?_
  rintro e w1 hpo
  rcases hpo with ⟨xs, v, F, nx, p, st, S, rfl, hrd, hcd, tv, bel, pl⟩ | ⟨rfl, bel, hno⟩
  rotate_left
  · exact absurd (Sc.ex_no hno) id
  obtain ⟨E, _⟩ := Sc.ex_read hrd
  have HE := Lib.hid E
  have HPL := Lib.hid pl
  have HRT := Lib.hid pl.rtg
  obtain ⟨D, rfl, hDs, hDo⟩ := tv.cells
  have HDI := Lib.hid (show (Try.prog.info? 40).map (·.size) = some D.size by rw [hDs]; exact Df.zero258.2)
  have HDO := Lib.hid hDo
  have HDS := Lib.hid hDs
  have HZ := Lib.hid (heap_alloc_new w1 (.cells Df.zT 40))
  have hb := Df.below_row (Bs.below1 w1 (.cells Df.zT 40)) (Nat.le_refl _) D
  have HA := Lib.hid (show Df.AW w w1.heap.size D (Df.kg xs) (Df.tN p nx S) (Df.tR (Df.rl F) S) ((w1.alloc (.cells Df.zT 40)).setRow w1.heap.size D) from ⟨setRow_heap _ _ _ _ _ _ HZ.out, tv.up hb, Bs.below_up (Bs.below_up HB0.out bel) hb⟩)
  clear C hrd hcd tv bel pl hDs hDo hb E HB0
  go_upto_region 2 with (first
    | (refine wpList_store_row rfl 40 _ _ rfl w1.heap.size D rfl rfl 40 Df.zT HZ.out HDI.out (by rw [Df.zT_size, HDS.out]) HDO.out ?_))
  clear zz HZ
  generalize (w1.alloc (.cells Df.zT 40)).setRow w1.heap.size D = W1 at *
  generalize w1.heap.size = b1 at *
  -- the first piece
  have C := Lib.hid (nextT_any (Df.kg xs) (Df.tN p nx S) (Df.tR (Df.rl F) S) (.agg D) Sc.aac 0 W1 HA.out.tv (by decide))
  rw [show (0 : Int) = ((0 : Nat) : Int) from rfl, Sc.nxv_yes HRT.out (Nat.zero_le _)] at C
  have hp : Sc.px (Df.kg xs) (Df.tN p nx S) (Df.tR (Df.rl F) S) (Px.by Sc.aac) Sc.aac.size 0 = ⟨1, 0, 1, 3⟩ := by
    have e := Sc.ex_p0 HPL.out HE.out
    unfold Sc.px
    rw [show Sc.aac.size - 0 = 3 from rfl, e]
    rfl
  rw [hp] at C
  unfold Sc.aac Sc.val at C
  clear hp
  go_wp2_with (first
    | (refine wpList_load_row rfl 40 _ rfl b1 rfl 40 D (0, 0) _ HA.out.row Try.underlying40 rfl HDI.out ?_))
  refine C.out.mono ?_
  rintro e w2 ⟨rfl, hb⟩
  have bx := Bs.below1 w2 (.cells (Sc.val ⟨1, 0, 1, 3⟩) 47)
  replace HA := Lib.hid ((HA.out.up hb).up bx)
  have HX := Lib.hid (Sc.lb_new w2 ⟨1, 0, 1, 3⟩)
  unfold Sc.val at HA HX
  clear C hb bx
  go_upto_region 3 with fail
  generalize w2.alloc (.cells #[.int .i64 1, .int .i64 0, .int .i64 1, .int .i64 3] 47) = W2 at *
  generalize w2.heap.size = b2 at *
  -- the second one
  have C := Lib.hid (nextT_any (Df.kg xs) (Df.tN p nx S) (Df.tR (Df.rl F) S) (.agg D) Sc.aac 2 W2 HA.out.tv (by decide))
  rw [show (2 : Int) = ((2 : Nat) : Int) from rfl, Sc.nxv_yes HRT.out (by decide)] at C
  have hp : Sc.px (Df.kg xs) (Df.tN p nx S) (Df.tR (Df.rl F) S) (Px.by Sc.aac) Sc.aac.size 2 = ⟨-1, 2, 2, 3⟩ := by
    have e := Sc.ex_p2 HPL.out HE.out
    unfold Sc.px
    rw [show Sc.aac.size - 2 = 1 from rfl, e]
    rfl
  rw [hp] at C
  unfold Sc.aac Sc.val at C
  clear hp
  go_wp2_with (first
    | (refine wpList_load_row rfl 40 _ rfl b1 rfl 40 D (0, 0) _ HA.out.row Try.underlying40 rfl HDI.out ?_))
  refine C.out.mono ?_
  rintro e w3 ⟨rfl, hb⟩
  have bx := Bs.below1 w3 (.cells (Sc.val ⟨-1, 2, 2, 3⟩) 47)
  replace HA := Lib.hid ((HA.out.up hb).up bx)
  replace HX := Lib.hid ((HX.out.up hb).up bx)
  have HY := Lib.hid (Sc.lb_new w3 ⟨-1, 2, 2, 3⟩)
  unfold Sc.val at HA HX HY
  clear C hb bx
  go_upto_region 4 with fail
  generalize w3.alloc (.cells #[.int .i64 (-1), .int .i64 2, .int .i64 2, .int .i64 3] 47) = W3 at *
  generalize w3.heap.size = b3 at *
  -- the third one
  have C := Lib.hid (nextT_any (Df.kg xs) (Df.tN p nx S) (Df.tR (Df.rl F) S) (.agg D) Sc.aa 0 W3 HA.out.tv (by decide))
  rw [show (0 : Int) = ((0 : Nat) : Int) from rfl, Sc.nxv_yes HRT.out (Nat.zero_le _)] at C
  obtain ⟨x, hx⟩ : ∃ x, x = Sc.px (Df.kg xs) (Df.tN p nx S) (Df.tR (Df.rl F) S) (Px.by Sc.aa) Sc.aa.size 0 := ⟨_, rfl⟩
  have hx3 : x.seen = 3 := by
    rw [hx]
    have := Sc.ex_q0 HPL.out HE.out
    unfold Sc.px
    rw [show Sc.aa.size - 0 = 2 from rfl, this]
    rfl
  rw [← hx] at C
  have HX3 := Lib.hid hx3
  clear hx hx3
  unfold Sc.aa Sc.val at C
  go_wp2_with (first
    | (refine wpList_load_row rfl 40 _ rfl b1 rfl 40 D (0, 0) _ HA.out.row Try.underlying40 rfl HDI.out ?_))
  refine C.out.mono ?_
  rintro e w4 ⟨rfl, hb⟩
  have bx := Bs.below1 w4 (.cells (Sc.val x) 47)
  replace HA := Lib.hid ((HA.out.up hb).up bx)
  replace HX := Lib.hid ((HX.out.up hb).up bx)
  replace HY := Lib.hid ((HY.out.up hb).up bx)
  have HQ := Lib.hid (Sc.lb_new w4 x)
  unfold Sc.val at HA HX HY HQ
  clear C hb bx
  go_upto_region 5 with fail
  generalize w4.alloc (.cells #[.int .i64 x.rule, .int .i64 x.at', .int .i64 x.upto, .int .i64 x.seen] 47) = W4 at *
  generalize w4.heap.size = b4 at *
  have C := Lib.hid (allT_any (Df.kg xs) (Df.tN p nx S) (Df.tR (Df.rl F) S) (.agg D) Sc.aac W4 HA.out.tv (by decide))
  go_wp2_with (first
    | (refine wpList_load_row rfl 40 _ rfl b1 rfl 40 D (0, 0) _ HA.out.row Try.underlying40 rfl HDI.out ?_))
  refine C.out.mono ?_
  rintro e w5 ⟨v, l, c, rfl, hrow, hfin, hb⟩
  obtain ⟨hl2, rfl⟩ := Sc.ex_all HPL.out HE.out hfin
  obtain ⟨av, cv, rfl, _⟩ := hrow
  rw [hl2]
  replace HX := Lib.hid (HX.out.up hb)
  replace HY := Lib.hid (HY.out.up hb)
  replace HQ := Lib.hid (HQ.out.up hb)
  have HBB := Lib.hid (Bs.below_up HA.out.bel hb)
  obtain ⟨m0, m1, m2, m3⟩ := HX.out.cells
  obtain ⟨n0, n1, n2, n3⟩ := HY.out.cells
  obtain ⟨q0, q1, q2, q3⟩ := HQ.out.cells
  rw [HX3.out] at q3
  clear C hfin hb
  go_wp2_with fail
  go_ret
  exact ⟨rfl, HBB.out⟩
end Go.Proofs.Ythapedadnbkgnaa
