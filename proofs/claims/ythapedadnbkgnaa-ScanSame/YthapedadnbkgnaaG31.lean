/- What a run's piece is, walked. Rows of pieces that grow by append. The chapter's example of layer 8, walked. What Next answers, walked: the program's. -/
import Derived.Test.YthapedadnbkgnaaG12
import Derived.Test.YthapedadnbkgnaaG30
import Derived.Deep.AppendLies
namespace Go.Proofs.Ythapedadnbkgnaa
set_option linter.unusedVariables false
set_option linter.unusedSimpArgs false
open Go.RowKit
def Sc.val (x : Sc.Lx) : Array Value := #[.int .i64 x.rule, .int .i64 x.at', .int .i64 x.upto, .int .i64 x.seen]
def Sc.LB (u : World) (c : Nat) (x : Sc.Lx) : Prop := u.heap[c]? = some (.cells (Sc.val x) 47)
theorem Sc.LB.lt {u : World} {c : Nat} {x : Sc.Lx} (h : Sc.LB u c x) : c < u.heap.size := (Array.getElem?_eq_some_iff.1 h).1
theorem Sc.LB.up {u u' : World} {c : Nat} {x : Sc.Lx} (h : Sc.LB u c x) (hb : Below u.heap.size u u') : Sc.LB u' c x := by
  unfold Sc.LB
  rw [hb.block _ h.lt]
  exact h
theorem Sc.LB.far {u : World} {c d i : Nat} {x : Sc.Lx} (h : Sc.LB u c x) (hn : c ≠ d) (v : Value) : Sc.LB (u.setCell ⟨d, i, none⟩ v) c x := by
  unfold Sc.LB
  rw [Below.heap_setCell _ _ _ _ hn]
  exact h
theorem Sc.LB.far4 {u : World} {c d : Nat} {x : Sc.Lx} (h : Sc.LB u c x) (hn : c ≠ d) (v1 v2 v3 v4 : Value) : Sc.LB ((((u.setCell ⟨d, 0, none⟩ v1).setCell ⟨d, 1, none⟩ v2).setCell ⟨d, 2, none⟩ v3).setCell ⟨d, 3, none⟩ v4) c x :=
  (((h.far hn _).far hn _).far hn _).far hn _
theorem Sc.LB.set {u : World} {c i : Nat} {x y : Sc.Lx} (h : Sc.LB u c x) (v : Value) (e : (Sc.val x).setIfInBounds i v = Sc.val y) : Sc.LB (u.setCell ⟨c, i, none⟩ v) c y := by
  unfold Sc.LB at h ⊢
  rw [setCell_eq_setRow _ _ _ _ _ _ _ h, setRow_heap _ _ _ _ _ _ h, e]
theorem Sc.LB.all {u : World} {c : Nat} {x : Sc.Lx} (h : Sc.LB u c x) (y : Sc.Lx) : Sc.LB ((((u.setCell ⟨c, 0, none⟩ (.int .i64 y.rule)).setCell ⟨c, 1, none⟩ (.int .i64 y.at')).setCell ⟨c, 2, none⟩ (.int .i64 y.upto)).setCell ⟨c, 3, none⟩ (.int .i64 y.seen)) c y := by
  have h0 := h.set (i := 0) (y := ⟨y.rule, x.at', x.upto, x.seen⟩) (.int .i64 y.rule) rfl
  have h1 := h0.set (i := 1) (y := ⟨y.rule, y.at', x.upto, x.seen⟩) (.int .i64 y.at') rfl
  have h2 := h1.set (i := 2) (y := ⟨y.rule, y.at', y.upto, x.seen⟩) (.int .i64 y.upto) rfl
  exact h2.set (i := 3) (y := ⟨y.rule, y.at', y.upto, y.seen⟩) (.int .i64 y.seen) rfl
theorem Sc.LB.cells {u : World} {c : Nat} {x : Sc.Lx} (h : Sc.LB u c x) : u.cell? ⟨c, 0, none⟩ = some (.int .i64 x.rule) ∧ u.cell? ⟨c, 1, none⟩ = some (.int .i64 x.at') ∧ u.cell? ⟨c, 2, none⟩ = some (.int .i64 x.upto) ∧ u.cell? ⟨c, 3, none⟩ = some (.int .i64 x.seen) := by
  refine ⟨?_, ?_, ?_, ?_⟩ <;> rw [cell_of_row _ _ _ _ _ _ h] <;> rfl
theorem Sc.LB.frz {u : World} {c : Nat} {x : Sc.Lx} (h : Sc.LB u c x) (i : Nat) : u.frozen? ⟨c, i, none⟩ = false := by
  unfold Sc.LB at h
  simp [World.frozen?, h]
theorem Sc.lb_new (u : World) (x : Sc.Lx) : Sc.LB (u.alloc (.cells (Sc.val x) 47)) u.heap.size x := heap_alloc_new u _
structure Sc.RB (u : World) (b : Nat) (g : Nat → Nat) (N : List (List Int)) (R : List Int) (s : ByteArray) (a1 : Option Addr) (n1 c1 : Nat) (a2 : Option Addr) (n2 c2 : Nat) (rows : List Value) : Prop where
  tb : Df.TB u b g (.slice a1 n1 c1) (.slice a2 n2 c2)
  tx : u.cell? ⟨b, 258, none⟩ = some (.string s)
  sv : Ng.Sv u a1 rows
  rw' : Df.Rws u rows N
  rl : Nf.Row u (fun _ => True) (.slice a2 n2 c2) R
theorem Sc.RB.up {u u' : World} {b : Nat} {g : Nat → Nat} {N : List (List Int)} {R : List Int} {s : ByteArray} {a1 : Option Addr} {n1 c1 : Nat} {a2 : Option Addr} {n2 c2 : Nat} {rows : List Value} (h : Sc.RB u b g N R s a1 n1 c1 a2 n2 c2 rows) (hb : Below u.heap.size u u') : Sc.RB u' b g N R s a1 n1 c1 a2 n2 c2 rows :=
  ⟨h.tb.up hb, Bs.cell_up hb h.tx, h.sv.up hb, h.rw'.up hb, h.rl.up hb⟩
theorem Sc.good_hit {g : Nat → Nat} {N : List (List Int)} {R : List Int} {b : Nat → Nat} {q : Nat} {k : Nat} {x : Int} (h : Df.rn g N b (q + 1) = k) (hx : R.getD k (-1) = x) (h0 : 0 ≤ x) : Sc.good g N R b (q + 1) = (x, q + 1) := by
  rw [Sc.good, h, Int.toNat_natCast, hx, if_pos ⟨by omega, h0⟩]
theorem Sc.good_miss {g : Nat → Nat} {N : List (List Int)} {R : List Int} {b : Nat → Nat} {q : Nat} {k : Nat} {x : Int} (h : Df.rn g N b (q + 1) = k) (hx : R.getD k (-1) = x) (h0 : x < 0) : Sc.good g N R b (q + 1) = Sc.good g N R b q := by
  rw [Sc.good, h, Int.toNat_natCast, hx, if_neg (by omega)]
theorem Sc.good_out {g : Nat → Nat} {N : List (List Int)} {R : List Int} {b : Nat → Nat} {q : Nat} (h : Df.rn g N b (q + 1) < 0) : Sc.good g N R b (q + 1) = Sc.good g N R b q := by
  rw [Sc.good, if_neg (by omega)]
def Sc.now (g : Nat → Nat) (N : List (List Int)) (R : List Int) (b : Nat → Nat) (a q : Nat) : Sc.Lx := ⟨(Sc.good g N R (Sc.sh b a) q).1, a, ((a + q : Nat) : Int), 0⟩
def Sc.best (g : Nat → Nat) (N : List (List Int)) (R : List Int) (b : Nat → Nat) (a q : Nat) : Sc.Lx := ⟨(Sc.good g N R (Sc.sh b a) q).1, a, ((a + (Sc.good g N R (Sc.sh b a) q).2 : Nat) : Int), 0⟩
theorem Sc.three (w : World) (x y z : Sc.Lx) :
    let W := ((w.alloc (.cells #[.int .i64 x.rule, .int .i64 x.at', .int .i64 x.upto, .int .i64 x.seen] 47)).alloc (.cells #[.int .i64 y.rule, .int .i64 y.at', .int .i64 y.upto, .int .i64 y.seen] 47)).alloc (.cells #[.int .i64 z.rule, .int .i64 z.at', .int .i64 z.upto, .int .i64 z.seen] 47)
    Sc.LB W w.heap.size x ∧ Sc.LB W (w.heap.size + 1) y ∧ Sc.LB W (w.heap.size + 2) z ∧ Below w.heap.size w W := by
  have l1 := Sc.lb_new w x
  have l2 := Sc.lb_new (w.alloc (.cells (Sc.val x) 47)) y
  have l3 := Sc.lb_new ((w.alloc (.cells (Sc.val x) 47)).alloc (.cells (Sc.val y) 47)) z
  have b2 := Bs.below1 (w.alloc (.cells (Sc.val x) 47)) (.cells (Sc.val y) 47)
  have b3 := Bs.below1 ((w.alloc (.cells (Sc.val x) 47)).alloc (.cells (Sc.val y) 47)) (.cells (Sc.val z) 47)
  have e1 : (w.alloc (.cells (Sc.val x) 47)).heap.size = w.heap.size + 1 := by simp
  have e2 : ((w.alloc (.cells (Sc.val x) 47)).alloc (.cells (Sc.val y) 47)).heap.size = w.heap.size + 2 := by simp
  rw [e1] at l2
  rw [e2] at l3
  exact ⟨(l1.up b2).up b3, l2.up b3, l3, Bs.below_up (Bs.below_up (Bs.below1 w _) b2) b3⟩
structure Sc.PI (w0 : World) (g : Nat → Nat) (N : List (List Int)) (R : List Int) (s : ByteArray) (at' rb nb gb q : Nat) (u : World) : Prop where
  m0 : Sc.LB u rb ⟨0, 0, 0, 0⟩
  m1 : Sc.LB u nb (Sc.now g N R (Px.by s) at' q)
  m2 : Sc.LB u gb (Sc.best g N R (Px.by s) at' q)
  bel : Below w0.heap.size w0 u
theorem Sc.PI.step {w0 : World} {g : Nat → Nat} {N : List (List Int)} {R : List Int} {s : ByteArray} {at' rb nb gb q : Nat} {u : World} (h : Sc.PI w0 g N R s at' rb nb gb q u) (h1 : rb ≠ nb) (h2 : nb ≠ gb) (h3 : w0.heap.size ≤ nb) (n : Nat) :
    Sc.LB ((u.drewN n).setCell ⟨nb, 2, none⟩ (.int .i64 ((at' : Int) + (q : Int) + 1))) rb ⟨0, 0, 0, 0⟩ ∧ Sc.LB ((u.drewN n).setCell ⟨nb, 2, none⟩ (.int .i64 ((at' : Int) + (q : Int) + 1))) nb ⟨(Sc.good g N R (Sc.sh (Px.by s) at') q).1, at', (at' : Int) + (q : Int) + 1, 0⟩ ∧ Sc.LB ((u.drewN n).setCell ⟨nb, 2, none⟩ (.int .i64 ((at' : Int) + (q : Int) + 1))) gb (Sc.best g N R (Px.by s) at' q) ∧ Below w0.heap.size w0 ((u.drewN n).setCell ⟨nb, 2, none⟩ (.int .i64 ((at' : Int) + (q : Int) + 1))) := by
  have hd := below_drewN (Below.refl u.heap.size u) n
  exact ⟨(h.m0.up hd).far h1 _, (h.m1.up hd).set _ rfl, (h.m2.up hd).far (Ne.symm h2) _, (below_drewN h.bel n).setCell h3 _⟩
theorem Sc.now_hit {g : Nat → Nat} {N : List (List Int)} {R : List Int} {b : Nat → Nat} {a q : Nat} {x : Int} (h : Sc.good g N R (Sc.sh b a) (q + 1) = (x, q + 1)) : Sc.now g N R b a (q + 1) = ⟨x, a, (a : Int) + (q : Int) + 1, 0⟩ ∧ Sc.best g N R b a (q + 1) = ⟨x, a, (a : Int) + (q : Int) + 1, 0⟩ := by
  unfold Sc.now Sc.best
  rw [h]
  constructor <;> · simp; omega
theorem Sc.now_miss {g : Nat → Nat} {N : List (List Int)} {R : List Int} {b : Nat → Nat} {a q : Nat} (h : Sc.good g N R (Sc.sh b a) (q + 1) = Sc.good g N R (Sc.sh b a) q) : Sc.now g N R b a (q + 1) = ⟨(Sc.good g N R (Sc.sh b a) q).1, a, (a : Int) + (q : Int) + 1, 0⟩ ∧ Sc.best g N R b a (q + 1) = Sc.best g N R b a q := by
  unfold Sc.now Sc.best
  rw [h]
  exact ⟨by simp; omega, rfl⟩
theorem Sc.px_dead {g : Nat → Nat} {N : List (List Int)} {R : List Int} {b : Nat → Nat} {n a q : Nat} (h : Df.rn g N (Sc.sh b a) q < 0) (hq : a + q ≤ n) (hs : Sc.stop g N (Sc.sh b a) q = q) : Sc.val (Sc.px g N R b n a) = #[.int .i64 (Sc.best g N R b a q).rule, .int .i64 (Sc.best g N R b a q).at', .int .i64 (Sc.best g N R b a q).upto, .int .i64 ((a + q : Nat) : Int)] := by
  obtain ⟨d, hd⟩ : ∃ d, n - a = q + d := ⟨n - a - q, by omega⟩
  have h1 := Sc.good_dead (R := R) h d
  have h2 := Sc.stop_dead h d
  have h3 := Df.rn_stop h d
  unfold Sc.px Sc.pc Sc.val Sc.best
  rw [hd, h1, h2, h3, hs, if_neg (by omega)]
  rfl
theorem Sc.px_end {g : Nat → Nat} {N : List (List Int)} {R : List Int} {b : Nat → Nat} {n a q : Nat} (h : 0 ≤ Df.rn g N (Sc.sh b a) q) (hq : a + q = n) : Sc.val (Sc.px g N R b n a) = #[.int .i64 (Sc.best g N R b a q).rule, .int .i64 (Sc.best g N R b a q).at', .int .i64 (Sc.best g N R b a q).upto, .int .i64 ((a + q + 1 : Nat) : Int)] := by
  have hd : n - a = q := by omega
  have h2 := Sc.stop_live h
  unfold Sc.px Sc.pc Sc.val Sc.best
  rw [hd, h2, if_pos h]
set_option maxRecDepth 100000 in
set_option maxHeartbeats 2000000 in
theorem piece_any (g : Nat → Nat) (N : List (List Int)) (R : List Int) (s : ByteArray) (at' b : Nat) (a1 : Option Addr) (n1 c1 : Nat) (a2 : Option Addr) (n2 c2 : Nat) (rows : List Value) (w : World) (H : Sc.RB w b g N R s a1 n1 c1 a2 n2 c2 rows) (hcl : ∀ c, g c < 256) (hlen : rows.length = n1) (hrt : Df.rt g N R = true) (hs : s.size < maxLen) (hat : at' ≤ s.size) :
    Calls Try.prog 35 #[.pointer (some ⟨b, 0, none⟩), .int .i64 at'] w fun e w' => e = .returned (.agg (Sc.val (Sc.px g N R (Px.by s) s.size at'))) ∧ Below w.heap.size w w' := by
  have hs63 : s.size < 9223372036854775807 := hs
  have hbl : b < w.heap.size := World.block_lt_of_cell? w _ H.tx
  have HRT := Lib.hid (Df.rt_of hrt)
  have HN1 := Lib.hid hlen
  have HNR := Lib.hid (show N.length = n1 by rw [← H.rw'.1, hlen])
  have HR2 := Lib.hid (show R.length = n2 by
    obtain ⟨_, _, e, _⟩ := H.rl
    injection e with _ e2 _
    exact e2.symm)
  have HRL := Lib.hid (show R.length = N.length from (Df.rt_of hrt).rl)
  have HCL := Lib.hid hcl
  have HRB := Lib.hid H
  have T3 := Sc.three w ⟨0, 0, 0, 0⟩ ⟨-1, at', at', 0⟩ ⟨-1, at', at', 0⟩
  clear H hcl hlen hrt hs
  go_enter Try.func35, Try.ntmps35
  go_wp2_with fail
  obtain ⟨t1, t2, t3, t4⟩ := T3
  have n1' : w.heap.size ≠ w.heap.size + 1 := by omega
  have n2' : w.heap.size ≠ w.heap.size + 2 := by omega
  have n3' : w.heap.size + 1 ≠ w.heap.size + 2 := by omega
  have n4' : w.heap.size + 1 ≠ b := by omega
  have g1 : w.heap.size ≤ w.heap.size + 1 := by omega
  have g2 : w.heap.size ≤ w.heap.size + 2 := by omega
  have n5' : w.heap.size ≠ b := by omega
  have n6' : w.heap.size + 2 ≠ b := by omega
  have hbw := HRB.out
  go_loopg [5] (s.size - at') (fun gk v5 wr => ∃ q : Nat, at' + q + gk = s.size ∧ v5 = .int .i64 (Df.rn g N (Sc.sh (Px.by s) at') q) ∧ Hid (Sc.stop g N (Sc.sh (Px.by s) at') q = q) ∧ Hid (Sc.PI w g N R s at' w.heap.size (w.heap.size + 1) (w.heap.size + 2) q wr))
  case atStart => exact ⟨0, by omega, rfl, Lib.hid rfl, Lib.hid ⟨t1, t2, t3, t4⟩⟩
  case round =>
    clear t1 t2 t3 t4 hbw
    obtain ⟨q, hq, rfl, HST, HP⟩ := hrel
    have hrn := HRT.out.rn (b := Sc.sh (Px.by s) at') (fun i => Df.by_lt s (at' + i)) q
    obtain ⟨r0, r1, r2, r3⟩ := HP.out.m0.cells
    obtain ⟨m0, m1, m2, m3⟩ := HP.out.m1.cells
    obtain ⟨e0, e1, e2, e3⟩ := HP.out.m2.cells
    have fr0 := HP.out.m0.frz 0; have fr1 := HP.out.m0.frz 1; have fr2 := HP.out.m0.frz 2; have fr3 := HP.out.m0.frz 3
    have fm0 := HP.out.m1.frz 0; have fm2 := HP.out.m1.frz 2
    have fe0 := HP.out.m2.frz 0; have fe1 := HP.out.m2.frz 1; have fe2 := HP.out.m2.frz 2; have fe3 := HP.out.m2.frz 3
    have HRB2 := Lib.hid (HRB.out.up HP.out.bel)
    have x258 := HRB2.out.tx
    have hm2 : (Sc.now g N R (Px.by s) at' q).upto = ((at' + q : Nat) : Int) := rfl
    rw [hm2] at m2
    clear hm2
    have hw1 : IntKind.i64.wrap (((at' + q : Nat) : Int) + 1) = ((at' + q + 1 : Nat) : Int) := by rw [IntWalk.i64_in _ (by omega)]; omega
    by_cases h0 : 0 ≤ Df.rn g N (Sc.sh (Px.by s) at') q
    case neg =>
      have d1 : decide (Df.rn g N (Sc.sh (Px.by s) at') q ≥ 0) = false := decide_eq_false h0
      have d2 : decide (0 ≤ Df.rn g N (Sc.sh (Px.by s) at') q) = false := decide_eq_false h0
      have HV := Lib.hid (Sc.px_dead (R := R) (b := Px.by s) (n := s.size) (Int.not_le.1 h0) (by omega) HST.out)
      generalize Sc.best g N R (Px.by s) at' q = be at *
      generalize Sc.now g N R (Px.by s) at' q = no at *
      clear hrn h0
      go_upto_region 4 with fail
      go_quiet (fail)
      go_wp2_with fail
      refine bodyPost_ret (v := .agg #[.int .i64 be.rule, .int .i64 be.at', .int .i64 be.upto, .int .i64 ((at' + q : Nat) : Int)]) ?_ rfl ⟨by rw [HV.out], ?_⟩
      · simp [results, Try.results35, go_sem, r0, r1, r2, r3]
      · exact (((((below_drewN HP.out.bel _).setCell g2 _).setCell (Nat.le_refl _) _).setCell (Nat.le_refl _) _).setCell (Nat.le_refl _) _).setCell (Nat.le_refl _) _
    case pos =>
      by_cases hlt : at' + q < s.size
      case neg =>
        have hqe : at' + q = s.size := by omega
        have d1 : decide (Df.rn g N (Sc.sh (Px.by s) at') q ≥ 0) = true := decide_eq_true h0
        have d2 : decide (0 ≤ Df.rn g N (Sc.sh (Px.by s) at') q) = true := decide_eq_true h0
        have d3 : decide (((at' + q : Nat) : Int) < (s.size : Int)) = false := decide_eq_false (by omega)
        have d4 : decide ((at' : Int) + (q : Int) < (s.size : Int)) = false := decide_eq_false (by omega)
        have hw2 : IntKind.i64.wrap ((at' : Int) + (q : Int) + 1) = (at' : Int) + (q : Int) + 1 := IntWalk.i64_in _ (by omega)
        have HV := Lib.hid (Sc.px_end (R := R) (b := Px.by s) (n := s.size) h0 hqe)
        generalize Sc.best g N R (Px.by s) at' q = be at *
        generalize Sc.now g N R (Px.by s) at' q = no at *
        clear hrn h0 hqe
        go_upto_region 4 with fail
        go_quiet (fail)
        go_wp2_with fail
        refine bodyPost_ret (v := .agg #[.int .i64 be.rule, .int .i64 be.at', .int .i64 be.upto, .int .i64 ((at' + q + 1 : Nat) : Int)]) ?_ rfl ⟨by rw [HV.out], ?_⟩
        · simp [results, Try.results35, go_sem, r0, r1, r2, r3]
        · exact ((((((below_drewN HP.out.bel _).setCell g2 _).setCell g2 _).setCell (Nat.le_refl _) _).setCell (Nat.le_refl _) _).setCell (Nat.le_refl _) _).setCell (Nat.le_refl _) _
      case pos =>
        obtain ⟨k, hk⟩ : ∃ k : Nat, Df.rn g N (Sc.sh (Px.by s) at') q = k := ⟨(Df.rn g N (Sc.sh (Px.by s) at') q).toNat, by omega⟩
        have hkN : k < N.length := by omega
        have hkr : k < rows.length := by rw [HRB2.out.rw'.1]; exact hkN
        have hby : Sc.sh (Px.by s) at' q = s[at' + q].toNat := Df.by_at s (at' + q) hlt
        have hc : Sc.sh (Px.by s) at' q < 256 := Df.by_lt s (at' + q)
        obtain ⟨hgr, e1', h1, h2⟩ := HRT.out.at hkN hc
        obtain ⟨ad, had, hx⟩ := HRB2.out.sv k hkr
        subst had
        obtain ⟨a5, c5, e5, y1, y2, hs5, y3⟩ := HRB2.out.rw'.2 k hkr hkN
        clear y1 y2 y3
        obtain ⟨ad5, y4, hy⟩ := hs5 _ hgr
        rw [y4] at e5
        clear y4
        rw [e5] at hx
        rw [e1'] at hy
        have hcl := HRB2.out.tb.cls _ hc
        have x1 := HRB2.out.tb.nx
        have HST2 := Lib.hid (show Df.rn g N (Sc.sh (Px.by s) at') (q + 1) = Df.stp g N k (Sc.sh (Px.by s) at' q) by rw [Df.rn, hk])
        have HSP := Lib.hid (show Sc.stop g N (Sc.sh (Px.by s) at') (q + 1) = q + 1 by rw [Sc.stop, if_pos h0])
        have HGR : Hid (g (Sc.sh (Px.by s) at' q) < N[k].length) := Lib.hid hgr
        clear e1' e5 hs5 hgr hrn
        rw [hby] at hcl hy HGR HST2 hc h1 h2
        rw [hk]
        have hk63 : k < n1 := by rw [← HN1.out]; exact hkr
        generalize N[k].length = m5 at *
        clear hk hby h0 hkr hkN
        have hgm : g s[at' + q].toNat < m5 := HGR.out
        have i1 : (0 : Int) ≤ (k : Int) := by omega
        have i2 : (k : Int) < (n1 : Int) := by omega
        have i3 : (0 : Int) ≤ ((at' + q : Nat) : Int) := by omega
        have i4 : ((at' + q : Nat) : Int) < (s.size : Int) := by omega
        have i3' : (0 : Int) ≤ (at' : Int) + (q : Int) := by omega
        have i4' : (at' : Int) + (q : Int) < (s.size : Int) := by omega
        have i5 : (0 : Int) ≤ (s[at' + q].toNat : Int) := by omega
        have i6 : (s[at' + q].toNat : Int) < 256 := by omega
        have i7 : (0 : Int) ≤ (g s[at' + q].toNat : Int) := by omega
        have i8 : (g s[at' + q].toNat : Int) < (m5 : Int) := by omega
        generalize hKK : Df.stp g N (k : Int) s[at' + q].toNat = K at *
        clear hKK
        have HN := Lib.hid (fun n => HP.out.step n1' n3' g1 n)
        have HBK := Lib.hid HP.out.bel
        go_upto_region 4 with fail
        go_quiet (fail)
        generalize nq = na
        go_upto_region 5 with fail
        go_quiet (fail)
        go_upto_region 7 with fail
        obtain ⟨l0, l1, l2, l3⟩ := HN.out (na + nq)
        clear HN HP HBK r0 r1 r2 r3 m0 m1 m2 m3 e0 e1 e2 e3 fr0 fr1 fr2 fr3 fm0 fm2 fe0 fe1 fe2 fe3 HRB2 x258 x1 hx hy hcl hw1
        generalize (wr.drewN (na + nq)).setCell ⟨w.heap.size + 1, 2, none⟩ (Value.int IntKind.i64 ((at' : Int) + (q : Int) + 1)) = V at *
        have L0 := Lib.hid l0
        have L1 := Lib.hid l1
        have L2 := Lib.hid l2
        have L3 := Lib.hid l3
        obtain ⟨m0, m1, m2, m3⟩ := l1.cells
        simp only at m0 m1 m2 m3
        have fm0 := l1.frz 0
        have fe0 := l2.frz 0; have fe1 := l2.frz 1; have fe2 := l2.frz 2; have fe3 := l2.frz 3
        obtain ⟨e0, e1, e2, e3⟩ := l2.cells
        have HRV := Lib.hid (HRB.out.up l3)
        have x257 := HRV.out.tb.rl
        clear l0 l1 l2 l3
        have HKE : Hid (Df.rn g N (Sc.sh (Px.by s) at') (q + 1) = K) := HST2
        by_cases hK : 0 ≤ K
        case neg =>
          have d1 : decide (K ≥ 0) = false := decide_eq_false hK
          have d2 : decide (0 ≤ K) = false := decide_eq_false hK
          have HG := Lib.hid (Sc.now_miss (Sc.good_out (R := R) (by rw [HKE.out]; omega)))
          go_wp2_with fail
          go_roundg (gk - 1)
          case measure => omega
          exact ⟨q + 1, by omega, by rw [HKE.out], HSP, Lib.hid ⟨L0.out, by rw [HG.out.1]; exact L1.out, by rw [HG.out.2]; exact L2.out, L3.out⟩⟩
        case pos =>
          obtain ⟨k', rfl⟩ := Int.eq_ofNat_of_zero_le hK
          have hkN : k' < N.length := by omega
          have hkR : k' < R.length := by rw [HRL.out]; exact hkN
          have hk2 : k' < n2 := by rw [← HR2.out]; exact hkR
          obtain ⟨a9, c9, e9, _, _, hs9, _⟩ := HRV.out.rl
          obtain ⟨ad9, e8, hr9⟩ := hs9 k' hkR
          rw [e8] at e9
          injection e9 with e9 e9a e9b
          subst e9
          clear hs9 e8 e9a e9b
          have HRX := Lib.hid (show R.getD k' (-1) = R[k'] from Df.getD_get R (-1) hkR)
          generalize R[k'] = x at *
          have i1 : (0 : Int) ≤ (k' : Int) := by omega
          have i2 : (k' : Int) < (n2 : Int) := by omega
          have d1 : decide ((k' : Int) ≥ 0) = true := decide_eq_true i1
          have d2 : decide ((0 : Int) ≤ (k' : Int)) = true := decide_eq_true i1
          by_cases hx0 : 0 ≤ x
          case neg =>
            have d3 : decide (x ≥ 0) = false := decide_eq_false hx0
            have d4 : decide (0 ≤ x) = false := decide_eq_false hx0
            have HG := Lib.hid (Sc.now_miss (Sc.good_miss HKE.out HRX.out (by omega)))
            go_wp2_with fail
            go_roundg (gk - 1)
            case measure => omega
            exact ⟨q + 1, by omega, by rw [HKE.out], HSP, Lib.hid ⟨L0.out, by rw [HG.out.1]; exact L1.out, by rw [HG.out.2]; exact L2.out, L3.out⟩⟩
          case pos =>
            have d3 : decide (x ≥ 0) = true := decide_eq_true hx0
            have d4 : decide (0 ≤ x) = true := decide_eq_true hx0
            have HG := Lib.hid (Sc.now_hit (Sc.good_hit HKE.out HRX.out hx0))
            go_wp2_with fail
            go_roundg (gk - 1)
            case measure => omega
            refine ⟨q + 1, by omega, by rw [HKE.out], HSP, Lib.hid ⟨?_, ?_, ?_, ?_⟩⟩
            · exact (L0.out.far n1' _).far4 n2' _ _ _ _
            · rw [HG.out.1]
              exact (L1.out.set (i := 0) (.int .i64 x) rfl).far4 n3' _ _ _ _
            · rw [HG.out.2]
              exact (L2.out.far (Ne.symm n3') _).all ⟨x, at', (at' : Int) + (q : Int) + 1, 0⟩
            · exact ((((L3.out.setCell g1 _).setCell g2 _).setCell g2 _).setCell g2 _).setCell g2 _
end Go.Proofs.Ythapedadnbkgnaa
namespace Go.Proofs.Ythapedadnbkgnaa
set_option linter.unusedVariables false
set_option linter.unusedSimpArgs false
open Go.RowKit
def Sc.cells (l : List Sc.Lx) : List Value := l.flatMap fun x => [.int .i64 x.rule, .int .i64 x.at', .int .i64 x.upto, .int .i64 x.seen]
theorem Sc.cells_append (a b : List Sc.Lx) : Sc.cells (a ++ b) = Sc.cells a ++ Sc.cells b := by simp [Sc.cells]
theorem Sc.cells_at : ∀ (l : List Sc.Lx) (k : Nat) (h : k < l.length), (Sc.cells l)[k * 4]? = some (.int .i64 l[k].rule) ∧ (Sc.cells l)[k * 4 + 1]? = some (.int .i64 l[k].at') ∧ (Sc.cells l)[k * 4 + 2]? = some (.int .i64 l[k].upto) ∧ (Sc.cells l)[k * 4 + 3]? = some (.int .i64 l[k].seen)
  | x :: r, 0, h => ⟨rfl, rfl, rfl, rfl⟩
  | x :: r, k + 1, h => by
    have ih := Sc.cells_at r k (by simpa using h)
    have e0 : Sc.cells (x :: r) = [.int .i64 x.rule, .int .i64 x.at', .int .i64 x.upto, .int .i64 x.seen] ++ Sc.cells r := rfl
    rw [e0]
    have a0 : (k + 1) * 4 = 4 + k * 4 := by omega
    have a1 : (k + 1) * 4 + 1 = 4 + (k * 4 + 1) := by omega
    have a2 : (k + 1) * 4 + 2 = 4 + (k * 4 + 2) := by omega
    have a3 : (k + 1) * 4 + 3 = 4 + (k * 4 + 3) := by omega
    rw [a1, a2, a3, a0, List.getElem?_append_right (by simp), List.getElem?_append_right (by simp), List.getElem?_append_right (by simp), List.getElem?_append_right (by simp)]
    simpa using ih
theorem Sc.infoLex : (Try.prog.info? 47).map (fun i => (i.zero, i.size, i.bytes)) = some (some (.agg #[.int .i64 0, .int .i64 0, .int .i64 0, .int .i64 0]), 4, 32) := by kernel_rfl
def Sc.Own (base : Nat) (v : Value) (l : List Sc.Lx) (w : World) : Prop := w.ownsRow base 47 4 v l.length (Sc.cells l)
theorem Sc.own_nil (base : Nat) (w : World) : Sc.Own base (.slice none 0 0) [] w := World.ownsRow_nil _ _ _ _
theorem Sc.Own.up {base : Nat} {v : Value} {l : List Sc.Lx} {w w' : World} (h : Sc.Own base v l w) (hb : Below w.heap.size w w') : Sc.Own base v l w' := Bs.row_up h hb
set_option maxRecDepth 100000 in
theorem Sc.append {ops : Array Oper} {rest : List Oper} {o : Oper} {a : Act} {Q : Exit → Act → World → Prop} {W : World} (hgd : o.guard = none) (s x : Operand)
    (ho : o.op = .call { callee := .builtin .append, args := #[s, x], argTypes := #[85, 85] })
    (base : Nat) (v : Value) (l : List Sc.Lx) (hs : a.eval s = v) (O : Sc.Own base v l W) (B c : Nat) (y : Sc.Lx) (hx : a.eval x = .slice (some ⟨B, 0, none⟩) 1 c) (hB : W.heap[B]? = some (.cells #[.int .i64 y.rule, .int .i64 y.at', .int .i64 y.upto, .int .i64 y.seen] 47)) (hl : l.length ≤ 1000000) (hbase : base ≤ W.heap.size)
    (h : ∀ g cap w', Sc.Own base (.slice (some ⟨g, 0, none⟩) (l.length + 1) cap) (l ++ [y]) w' → W.grownBy w' v.ownBlock → (v.ownBlock = some g ∨ g = W.heap.size) → wpList Try.prog ops Q rest (a.put o.dst (.slice (some ⟨g, 0, none⟩) (l.length + 1) cap)) w') : wpList Try.prog ops Q (o :: rest) a W := by
  obtain ⟨iI, hiI, hz0, hz1, hz2⟩ := info_parts Sc.infoLex
  refine wpList_append_lies W hgd s x 85 ho base 47 iI _ 4 32 Try.underlying85 hiI hz0 hz1 hz2 rfl (by decide) v l.length (Sc.cells l) hs O ⟨B, 0, none⟩ 1 c [.int .i64 y.rule, .int .i64 y.at', .int .i64 y.upto, .int .i64 y.seen] hx rfl (World.news_of_block hB) (by simp [Value.oneCell']) (by decide) (by unfold maxLen; omega) (by omega) hbase _ rfl ?_
  intro g cap w' o1 o2 o3 _
  exact h g cap w' (by unfold Sc.Own; rw [List.length_append, Sc.cells_append]; exact o1) o2 o3
theorem Sc.add_is (g j : Nat) : (⟨g, 0, none⟩ : Addr).add j = ⟨g, j, none⟩ := by unfold Addr.add; split <;> simp_all
structure Sc.At (w : World) (p : Addr) (x : Sc.Lx) : Prop where
  c0 : w.cell? p = some (.int .i64 x.rule)
  c1 : w.cell? ⟨p.block, p.off + 1, none⟩ = some (.int .i64 x.at')
  c2 : w.cell? ⟨p.block, p.off + 2, none⟩ = some (.int .i64 x.upto)
  c3 : w.cell? ⟨p.block, p.off + 3, none⟩ = some (.int .i64 x.seen)
theorem Sc.At.up {w w' : World} {p : Addr} {x : Sc.Lx} (h : Sc.At w p x) (hb : Below w.heap.size w w') : Sc.At w' p x := ⟨Bs.cell_up hb h.c0, Bs.cell_up hb h.c1, Bs.cell_up hb h.c2, Bs.cell_up hb h.c3⟩
def Sc.Row (w : World) (v : Value) (l : List Sc.Lx) : Prop := ∃ a c, v = .slice a l.length c ∧ ∀ i (h : i < l.length), ∃ p, a = some p ∧ Sc.At w (p.add (i * 4)) l[i]
theorem Sc.Row.up {w w' : World} {v : Value} {l : List Sc.Lx} (h : Sc.Row w v l) (hb : Below w.heap.size w w') : Sc.Row w' v l := by
  obtain ⟨a, c, e, h⟩ := h
  exact ⟨a, c, e, fun i hi => by obtain ⟨p, e, h⟩ := h i hi; exact ⟨p, e, h.up hb⟩⟩
theorem Sc.Own.row {base : Nat} {v : Value} {l : List Sc.Lx} {w : World} (h : Sc.Own base v l w) : Sc.Row w v l := by
  rcases h.2 with ⟨rfl, h0⟩ | ⟨g, cap, cur, rfl, _⟩
  · have e : l = [] := List.length_eq_zero_iff.1 h0
    subst e
    exact ⟨none, 0, rfl, fun i hi => by simp at hi⟩
  · refine ⟨some ⟨g, 0, none⟩, cap, rfl, fun i hi => ⟨⟨g, 0, none⟩, rfl, ?_⟩⟩
    have hc := Sc.cells_at l i hi
    have k0 := World.ownsRow.cells h (g := g) rfl _ _ hc.1
    have k1 := World.ownsRow.cells h (g := g) rfl _ _ hc.2.1
    have k2 := World.ownsRow.cells h (g := g) rfl _ _ hc.2.2.1
    have k3 := World.ownsRow.cells h (g := g) rfl _ _ hc.2.2.2
    rw [Sc.add_is] at k0 k1 k2 k3 ⊢
    exact ⟨k0, k1, k2, k3⟩
end Go.Proofs.Ythapedadnbkgnaa
namespace Go.Proofs.Ythapedadnbkgnaa
set_option linter.unusedVariables false
set_option linter.unusedSimpArgs false
open Go.RowKit
structure Df.AW (w0 : World) (b : Nat) (D : Array Value) (g : Nat → Nat) (N : List (List Int)) (R : List Int) (u : World) : Prop where
  row : u.heap[b]? = some (.cells D 40)
  tv : Df.Tv u (.agg D) g N R
  bel : Below w0.heap.size w0 u
theorem Df.AW.up {w0 : World} {b : Nat} {D : Array Value} {g : Nat → Nat} {N : List (List Int)} {R : List Int} {u u' : World} (h : Df.AW w0 b D g N R u) (hb : Below u.heap.size u u') : Df.AW w0 b D g N R u' :=
  ⟨by rw [hb.block _ (Array.getElem?_eq_some_iff.1 h.row).1]; exact h.row, h.tv.up hb, Bs.below_up h.bel hb⟩
theorem Df.AW.cell {w0 : World} {b : Nat} {D : Array Value} {g : Nat → Nat} {N : List (List Int)} {R : List Int} {u : World} (h : Df.AW w0 b D g N R u) {i : Nat} {x : Value} (hx : D[i]? = some x) : u.cell? ⟨b, i, none⟩ = some x := by
  have := h.row
  simp [World.cell?, this, hx]
end Go.Proofs.Ythapedadnbkgnaa
namespace Go.Proofs.Ythapedadnbkgnaa
set_option linter.unusedVariables false
set_option linter.unusedSimpArgs false
open Go.RowKit
def Sc.nxv (g : Nat → Nat) (N : List (List Int)) (R : List Int) (s : ByteArray) (at' : Int) : Sc.Lx × Int :=
  if Df.rt g N R = true then if 0 ≤ at' ∧ at' ≤ s.size then (Sc.px g N R (Px.by s) s.size at'.toNat, 0) else (⟨0, 0, 0, 0⟩, 3) else (⟨0, 0, 0, 0⟩, 1)
def Sc.runc (g : Nat → Nat) (v1 v2 : Value) (s : ByteArray) : Array Value := Bs.arr g ++ #[v1, v2] ++ #[.string s]
theorem Sc.rb_new {w : World} {g : Nat → Nat} {N : List (List Int)} {R : List Int} {s : ByteArray} {a1 : Option Addr} {n1 c1 : Nat} {a2 : Option Addr} {n2 c2 : Nat} {rows : List Value} (hS : Ng.Sv w a1 rows) (hR : Df.Rws w rows N) (hRl : Nf.Row w (fun _ => True) (.slice a2 n2 c2) R) (t : TypeId) : Sc.RB (w.alloc (.cells (Sc.runc g (.slice a1 n1 c1) (.slice a2 n2 c2) s) t)) w.heap.size g N R s a1 n1 c1 a2 n2 c2 rows := by
  have hb := Bs.below1 w (.cells (Sc.runc g (.slice a1 n1 c1) (.slice a2 n2 c2) s) t)
  have hc : ∀ i v, (Sc.runc g (.slice a1 n1 c1) (.slice a2 n2 c2) s)[i]? = some v → (w.alloc (.cells (Sc.runc g (.slice a1 n1 c1) (.slice a2 n2 c2) s) t)).cell? ⟨w.heap.size, i, none⟩ = some v := by
    intro i v h
    rw [cell_of_row _ _ _ _ _ _ (heap_alloc_new w _)]
    exact h
  have s0 := Bs.arr_size g
  have s1 : (Bs.arr g ++ #[Value.slice a1 n1 c1, Value.slice a2 n2 c2]).size = 258 := by rw [Array.size_append, s0]; rfl
  refine ⟨⟨fun c hc' => hc _ _ ?_, hc _ _ ?_, hc _ _ ?_⟩, hc _ _ ?_, hS.up hb, hR.up hb, hRl.up hb⟩
  · unfold Sc.runc
    rw [Array.getElem?_append_left (by rw [s1]; omega), Array.getElem?_append_left (by rw [s0]; exact hc'), Bs.arr_at _ _ hc']
  · unfold Sc.runc
    rw [Array.getElem?_append_left (by rw [s1]; omega), Array.getElem?_append_right (by rw [s0]; omega), s0]; rfl
  · unfold Sc.runc
    rw [Array.getElem?_append_left (by rw [s1]; omega), Array.getElem?_append_right (by rw [s0]; omega), s0]; rfl
  · unfold Sc.runc
    rw [Array.getElem?_append_right (by rw [s1]; omega), s1]; rfl
theorem Sc.places : (match Try.prog.info? 90, Try.prog.underlying 90 with | some it, some (.struct fields) => (it.zero, fields.toList.mapM (fun f => (Try.prog.info? f.type).map fun i => (f.offset, i.size))) | _, _ => (none, none)) = (some (.agg (Df.zT ++ #[.string ⟨#[]⟩])), some [(0, 258), (258, 1)]) := by kernel_rfl
theorem Sc.lay_arr (D : Array Value) (hD : D.size = 258) : D.zipIdx.foldl (fun cs (x : Value × Nat) => match x with | (c, j) => cs.setIfInBounds (0 + j) c) (Df.zT ++ #[Value.string ⟨#[]⟩]) = D ++ #[Value.string ⟨#[]⟩] := by
  have e : D.zipIdx.foldl (fun cs (x : Value × Nat) => match x with | (c, j) => cs.setIfInBounds (0 + j) c) (Df.zT ++ #[Value.string ⟨#[]⟩]) = (D.toList.zipIdx 0).foldl (fun cs (p : Value × Nat) => cs.setIfInBounds (0 + p.2) p.1) (Df.zT ++ #[Value.string ⟨#[]⟩]) := by
    rw [← Array.foldl_toList, Array.toList_zipIdx]
  rw [e]
  have hz : (Df.zT ++ #[Value.string ⟨#[]⟩]).size = 259 := by rw [Array.size_append, Df.zT_size]; rfl
  apply Array.ext_getElem?
  intro i
  have hl : D.toList.length = 258 := by simpa using hD
  rw [Df.lay_get _ 0 _ i (by rw [hl, hz]; omega), hl]
  by_cases hi : i < 258
  · rw [if_pos (by omega), Array.getElem?_append_left (by rw [hD]; exact hi)]
    simp
  · rw [if_neg (by omega), Array.getElem?_append_right (by rw [Df.zT_size]; omega), Array.getElem?_append_right (by rw [hD]; omega), hD, Df.zT_size]
set_option maxRecDepth 100000 in
theorem Sc.fill2 (D : Array Value) (hD : D.size = 258) (s : ByteArray) : Instr.fill ([(0, 258), (258, 1)].toArray[·]?) (Df.zT ++ #[.string ⟨#[]⟩]) [(0, .agg D), (1, .string s)] = some (D ++ #[.string s]) := by
  have hz : (Df.zT ++ #[Value.string ⟨#[]⟩]).size = 259 := by rw [Array.size_append, Df.zT_size]; rfl
  have e1 : (D ++ #[Value.string ⟨#[]⟩]).size = 259 := by rw [Array.size_append, hD]; rfl
  have e2 : (D ++ #[Value.string ⟨#[]⟩]).setIfInBounds 258 (.string s) = D ++ #[Value.string s] := by
    apply Array.ext_getElem?
    intro i
    rw [Array.getElem?_setIfInBounds]
    by_cases h : 258 = i
    · subst h
      rw [if_pos rfl, if_pos (by rw [e1]; omega), Array.getElem?_append_right (by rw [hD]; omega), hD]
      rfl
    · rw [if_neg h]
      by_cases h2 : i < 258
      · rw [Array.getElem?_append_left (by rw [hD]; exact h2), Array.getElem?_append_left (by rw [hD]; exact h2)]
      · rw [Array.getElem?_append_right (by rw [hD]; omega), Array.getElem?_append_right (by rw [hD]; omega), hD]
        obtain ⟨d, hd⟩ : ∃ d, i - 258 = d + 1 := ⟨i - 259, by omega⟩
        rw [hd]
        simp
  have c0 : (Value.agg D).cells = D := rfl
  have c1 : (Value.string s).cells = #[Value.string s] := rfl
  have p0 : [(0, 258), (258, 1)].toArray[0]? = some ((0, 258) : Nat × Nat) := rfl
  have p1 : [(0, 258), (258, 1)].toArray[1]? = some ((258, 1) : Nat × Nat) := rfl
  rw [Instr.fill]
  simp only [p0, c0, hD, hz]
  rw [if_neg (by simp), Sc.lay_arr D hD, Instr.fill]
  simp only [p1, c1, e1]
  rw [if_neg (by simp)]
  have f1 : (#[Value.string s] : Array Value).zipIdx.foldl (fun cs (x : Value × Nat) => match x with | (c, j) => cs.setIfInBounds (258 + j) c) (D ++ #[Value.string ⟨#[]⟩]) = (D ++ #[Value.string ⟨#[]⟩]).setIfInBounds 258 (.string s) := by simp
  rw [f1, e2, Instr.fill]
theorem Sc.build2 (D : Array Value) (hD : D.size = 258) (s : ByteArray) (w : World) : (Instr.build 90 #[(0, .agg D), (1, .string s)]).run Try.prog w = .ok (.agg (D ++ #[.string s])) w := by
  refine run_build w 90 _ _ ?_
  have hp := Sc.places
  unfold Program.built
  cases hi : Try.prog.info? 90 with
  | none => rw [hi] at hp; simp at hp
  | some it =>
    cases hu : Try.prog.underlying 90 with
    | none => rw [hi, hu] at hp; simp at hp
    | some d =>
      rw [hi, hu] at hp
      cases d <;> simp only [Prod.mk.injEq, reduceCtorEq, false_and] at hp
      case struct fields =>
        obtain ⟨h1, h2⟩ := hp
        simp only [h1, h2]
        exact Sc.fill2 D hD s
theorem Sc.wpList_built2 {P : Program} {ops : Array Oper} {rest : List Oper} {o : Oper} {a : Act} {w : World} {Q : Exit → Act → World → Prop} (hg : o.guard = none) (t : TypeId) (x y : Operand) (ho : o.op = .build t #[(0, x), (1, y)]) (u1 u2 : Value) (h1 : a.eval x = u1) (h2 : a.eval y = u2) (D : Array Value) (hb : ∀ w, (Instr.build t #[(0, u1), (1, u2)]).run P w = .ok (.agg D) w)
    (h : wpList P ops Q rest (a.put o.dst (.agg D)) w) : wpList P ops Q (o :: rest) a w := by
  refine wpList_plain hg fun _ hK => ?_
  unfold Oper.wp execOp
  have e : (#[(0, x), (1, y)] : Array (Nat × Operand)).map (fun (i, x) => (i, a.eval x)) = #[(0, u1), (1, u2)] := by simp [h1, h2]
  simp only [ho, e, Sem.run_bind, hb, Result.andThen_ok]
  exact hK _ _ h
theorem Sc.push_eq (D : Array Value) (s : ByteArray) : D ++ #[.string s] = D.push (.string s) := by simp
theorem Df.Tv.cells {w : World} {v : Value} {g : Nat → Nat} {N : List (List Int)} {R : List Int} (h : Df.Tv w v g N R) : ∃ D, v = .agg D ∧ D.size = 258 ∧ D.all (·.oneCell') = true := by
  obtain ⟨t1, m1, q1, rows, t2, m2, q2, rfl, _, _⟩ := h.is
  refine ⟨_, rfl, ?_, ?_⟩
  · rw [Array.size_append, Bs.arr_size]; rfl
  · rw [Array.all_append, Bs.arr_one]; simp [Value.oneCell']
theorem Df.AW.run {w0 : World} {b : Nat} {D : Array Value} {g : Nat → Nat} {N : List (List Int)} {R : List Int} {u : World} (h : Df.AW w0 b D g N R u) (s : ByteArray) (t : TypeId) : ∃ a1 n1 c1 a2 n2 c2 rows, rows.length = n1 ∧ Sc.RB (u.alloc (.cells (D ++ #[.string s]) t)) u.heap.size g N R s a1 n1 c1 a2 n2 c2 rows ∧ ∀ c, g c < 256 := by
  obtain ⟨t1, m1, q1, rows, t2, m2, q2, e, hl, hS, hR, hRl⟩ := h.tv.is
  unfold Df.tab at e
  injection e with e
  subst e
  exact ⟨t1, m1, q1, t2, m2, q2, rows, hl, Sc.rb_new hS hR hRl t, h.tv.cl⟩
theorem Df.aw_new {w : World} {D : Array Value} {g : Nat → Nat} {N : List (List Int)} {R : List Int} (h : Df.Tv w (.agg D) g N R) : Df.AW w w.heap.size D g N R (w.alloc (.cells D 40)) :=
  ⟨heap_alloc_new w _, h.up (Bs.below1 w _), Bs.below1 w _⟩
theorem Sc.nxv_no {g : Nat → Nat} {N : List (List Int)} {R : List Int} {s : ByteArray} {at' : Int} (h : Df.rt g N R = false) : Sc.nxv g N R s at' = (⟨0, 0, 0, 0⟩, 1) := by
  unfold Sc.nxv
  rw [if_neg (by rw [h]; simp)]
theorem Sc.nxv_far {g : Nat → Nat} {N : List (List Int)} {R : List Int} {s : ByteArray} {at' : Int} (h : Df.rt g N R = true) (h2 : ¬ (0 ≤ at' ∧ at' ≤ s.size)) : Sc.nxv g N R s at' = (⟨0, 0, 0, 0⟩, 3) := by
  unfold Sc.nxv
  rw [if_pos h, if_neg h2]
theorem Sc.nxv_yes {g : Nat → Nat} {N : List (List Int)} {R : List Int} {s : ByteArray} {a : Nat} (h : Df.rt g N R = true) (h2 : a ≤ s.size) : Sc.nxv g N R s (a : Int) = (Sc.px g N R (Px.by s) s.size a, 0) := by
  unfold Sc.nxv
  rw [if_pos h, if_pos (by omega), Int.toNat_natCast]
set_option maxRecDepth 100000 in
set_option maxHeartbeats 2000000 in
theorem nextT_any (g : Nat → Nat) (N : List (List Int)) (R : List Int) (v : Value) (s : ByteArray) (at' : Int) (w : World) (h : Df.Tv w v g N R) (hs : s.size < maxLen) : Calls Try.prog 13 #[v, .string s, .int .i64 at'] w fun e w' => e = .returned (.tuple #[.agg (Sc.val (Sc.nxv g N R s at').1), .int .i64 (Sc.nxv g N R s at').2]) ∧ Below w.heap.size w w' := by
  have hs63 : s.size < 9223372036854775807 := hs
  have HSM := Lib.hid hs
  obtain ⟨D, rfl, hsz, _⟩ := h.cells
  have HINF := Lib.hid (show (Try.prog.info? 40).map (·.size) = some D.size by rw [hsz]; exact Df.zero258.2)
  have HSZ := Lib.hid hsz
  have hbw := Bs.below1 (w.alloc (.cells D 40)) (.cells (Sc.val ⟨0, 0, 0, 0⟩) 47)
  have HA := Lib.hid ((Df.aw_new h).up hbw)
  have HL := Lib.hid (Sc.lb_new (w.alloc (.cells D 40)) ⟨0, 0, 0, 0⟩)
  have e1 : (w.alloc (.cells D 40)).heap.size = w.heap.size + 1 := by simp
  rw [e1] at HL
  unfold Sc.val at HA HL
  clear hbw h hsz hs e1
  go_enter Try.func13, Try.ntmps13
  go_upto_region 1 with fail
  generalize ((w.alloc (.cells D 40)).alloc (.cells #[.int .i64 0, .int .i64 0, .int .i64 0, .int .i64 0] 47)) = W at *
  have C := Lib.hid (rightT_any g N R _ W HA.out.tv)
  go_wp2_with (first
    | (refine wpList_load_row rfl 40 _ rfl w.heap.size rfl 40 D (0, 0) _ HA.out.row Try.underlying40 rfl HINF.out ?_))
  refine C.out.mono ?_
  rintro e w1 ⟨rfl, hb⟩
  replace HA := Lib.hid (HA.out.up hb)
  replace HL := Lib.hid (HL.out.up hb)
  clear hb C
  obtain ⟨r0, r1, r2, r3⟩ := HL.out.cells
  have fr0 := HL.out.frz 0; have fr1 := HL.out.frz 1; have fr2 := HL.out.frz 2; have fr3 := HL.out.frz 3
  have g1 : w.heap.size ≤ w.heap.size + 1 := by omega
  obtain ⟨bb, hbb⟩ : ∃ bb, Df.rt g N R = bb := ⟨_, rfl⟩
  have HBB := Lib.hid hbb
  rw [hbb]
  clear hbb
  cases bb
  · go_wp2_with fail
    refine bodyPost_ret (v := .tuple #[.agg #[.int .i64 0, .int .i64 0, .int .i64 0, .int .i64 0], .int .i64 1]) ?_ rfl ⟨by rw [Sc.nxv_no HBB.out]; rfl, ?_⟩
    · simp [results, Try.results13, go_sem, r0, r1, r2, r3]
    · exact (((HA.out.bel.setCell g1 _).setCell g1 _).setCell g1 _).setCell g1 _
  by_cases hat : 0 ≤ at' ∧ at' ≤ s.size
  case neg =>
    have HFA := Lib.hid (Sc.nxv_far HBB.out hat)
    by_cases h0 : at' < 0
    · have d1 : decide (at' < 0) = true := decide_eq_true h0
      go_wp2_with fail
      refine bodyPost_ret (v := .tuple #[.agg #[.int .i64 0, .int .i64 0, .int .i64 0, .int .i64 0], .int .i64 3]) ?_ rfl ⟨by rw [HFA.out]; rfl, ?_⟩
      · simp [results, Try.results13, go_sem, r0, r1, r2, r3]
      · exact (((HA.out.bel.setCell g1 _).setCell g1 _).setCell g1 _).setCell g1 _
    · have d1 : decide (at' < 0) = false := decide_eq_false h0
      have d2 : decide (at' > (s.size : Int)) = true := decide_eq_true (by omega)
      have d3 : decide ((s.size : Int) < at') = true := decide_eq_true (by omega)
      go_wp2_with fail
      refine bodyPost_ret (v := .tuple #[.agg #[.int .i64 0, .int .i64 0, .int .i64 0, .int .i64 0], .int .i64 3]) ?_ rfl ⟨by rw [HFA.out]; rfl, ?_⟩
      · simp [results, Try.results13, go_sem, r0, r1, r2, r3]
      · exact (((HA.out.bel.setCell g1 _).setCell g1 _).setCell g1 _).setCell g1 _
  case pos =>
    obtain ⟨a, rfl⟩ := Int.eq_ofNat_of_zero_le hat.1
    have haN : a ≤ s.size := by omega
    have HFA := Lib.hid (Sc.nxv_yes HBB.out haN)
    have d1 : decide ((a : Int) < 0) = false := decide_eq_false (by omega)
    have d2 : decide ((a : Int) > (s.size : Int)) = false := decide_eq_false (by omega)
    have d3 : decide ((s.size : Int) < (a : Int)) = false := decide_eq_false (by omega)
    have d4 : decide (s.size < a) = false := decide_eq_false (by omega)
    have hbd := Sc.build2 D HSZ.out s
    obtain ⟨a1, n1, c1, a2, n2, c2, rows, hrl, hrb, hcl⟩ := HA.out.run s 90
    have C := Lib.hid (piece_any g N R s a w1.heap.size a1 n1 c1 a2 n2 c2 rows _ hrb hcl hrl HBB.out HSM.out haN)
    have hbx := Bs.below1 w1 (.cells (D ++ #[.string s]) 90)
    have HA2 := Lib.hid (HA.out.bel.alloc (o := .cells (D ++ #[.string s]) 90) HA.out.bel.size)
    have HL2 := Lib.hid (HL.out.up hbx)
    clear hrb hcl hrl hbx hat r0 r1 r2 r3 fr0 fr1 fr2 fr3
    go_wp2_with (first
      | (refine wpList_load_row rfl 40 _ rfl w.heap.size rfl 40 D (0, 0) _ HA.out.row Try.underlying40 rfl HINF.out ?_)
      | (refine Sc.wpList_built2 rfl 90 _ _ rfl (.agg D) (.string s) rfl rfl (D ++ #[.string s]) hbd ?_))
    clear hbd
    rw [Sc.push_eq] at C HA2 HL2
    generalize w1.alloc (.cells (D.push (.string s)) 90) = W2 at *
    refine C.out.mono ?_
    rintro e w3 ⟨rfl, b3⟩
    replace HA2 := Lib.hid (Bs.below_up HA2.out b3)
    replace HL2 := Lib.hid (HL2.out.up b3)
    clear C b3 HL HA
    obtain ⟨r0, r1, r2, r3⟩ := HL2.out.cells
    have fr0 := HL2.out.frz 0; have fr1 := HL2.out.frz 1; have fr2 := HL2.out.frz 2; have fr3 := HL2.out.frz 3
    generalize hx : Sc.px g N R (Px.by s) s.size a = x at *
    clear hx
    unfold Sc.val
    go_wp2_with fail
    refine bodyPost_ret (v := .tuple #[.agg #[.int .i64 x.rule, .int .i64 x.at', .int .i64 x.upto, .int .i64 x.seen], .int .i64 0]) ?_ rfl ⟨by rw [HFA.out]; rfl, ?_⟩
    · simp [results, Try.results13, go_sem, r0, r1, r2, r3]
    · exact (((HA2.out.setCell g1 _).setCell g1 _).setCell g1 _).setCell g1 _
end Go.Proofs.Ythapedadnbkgnaa
