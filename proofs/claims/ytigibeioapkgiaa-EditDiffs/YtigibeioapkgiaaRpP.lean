/- What 'down' answers, walked. What 'At', 'Lines', 'Signs' and 'Line' answer, walked. -/
import Derived.Test.YtigibeioapkgiaaRpN
import Derived.Deep.LoopGhost
namespace Go.Proofs.Ytigibeioapkgiaa
set_option linter.unusedVariables false
set_option linter.unusedSimpArgs false
open Go.RowKit
open Rp (Tr)
/-- block c holds three numbers, and may be written -/
structure Rp.Box3 (w : World) (c : Nat) (x y z : Int) : Prop where
  c0 : w.cell? ⟨c, 0, none⟩ = some (.int .i64 x)
  c1 : w.cell? ⟨c, 1, none⟩ = some (.int .i64 y)
  c2 : w.cell? ⟨c, 2, none⟩ = some (.int .i64 z)
  f0 : w.frozen? ⟨c, 0, none⟩ = false
  f1 : w.frozen? ⟨c, 1, none⟩ = false
  f2 : w.frozen? ⟨c, 2, none⟩ = false
  n5 : w.cell? ⟨c, 5, none⟩ = none
  n4 : w.cell? ⟨c, 4, none⟩ = none
theorem Rp.Box3.up {w w1 : World} (hb : Below w.heap.size w w1) {c : Nat} {x y z : Int} (h : Rp.Box3 w c x y z) : Rp.Box3 w1 c x y z := by
  have hlt : c < w.heap.size := World.block_lt_of_cell? w _ h.c0
  exact ⟨Rp.cell_up hb h.c0, Rp.cell_up hb h.c1, Rp.cell_up hb h.c2, Rp.frz_up hb h.c0 h.f0, Rp.frz_up hb h.c1 h.f1, Rp.frz_up hb h.c2 h.f2, by rw [hb.cell (p := ⟨c, 5, none⟩) hlt]; exact h.n5, by rw [hb.cell (p := ⟨c, 4, none⟩) hlt]; exact h.n4⟩
theorem Rp.IsPart.far {w : World} {c i : Nat} (hc : w.cell? ⟨c, 5, none⟩ = none) (v : Value) {b : Nat} {t : Tr} (h : Rp.IsPart w b t) : Rp.IsPart (w.setCell ⟨c, i, none⟩ v) b t := by
  have key : ∀ {b : Nat} {t : Tr} {p q : Option Addr}, Rp.Cells w b t p q → Rp.Cells (w.setCell ⟨c, i, none⟩ v) b t p q := by
    intro b t p q h
    have hn : c ≠ b := by
      rintro rfl
      have := h.c5
      rw [hc] at this
      simp at this
    exact ⟨Rp.cell_set h.c0 hn, Rp.cell_set h.c1 hn, Rp.cell_set h.c2 hn, Rp.cell_set h.c3 hn, Rp.cell_set h.c4 hn, Rp.cell_set h.c5 hn, Rp.cell_set h.c6 hn⟩
  induction t generalizing b with
  | leaf s => exact key h
  | node l r il ir => obtain ⟨x, y, hc', hl, hr⟩ := h; exact ⟨x, y, key hc', il hl, ir hr⟩
theorem Rp.n5_set {w : World} {c d i : Nat} {v : Value} (hi : i ≠ 5) (hc : w.cell? ⟨c, 5, none⟩ = none) : (w.setCell ⟨d, i, none⟩ v).cell? ⟨c, 5, none⟩ = none := by
  rw [World.cell?_setCell_other _ _ _ _ (by simp [hi])]; exact hc
theorem Rp.n4_set {w : World} {c d i : Nat} {v : Value} (hi : i ≠ 4) (hc : w.cell? ⟨c, 4, none⟩ = none) : (w.setCell ⟨d, i, none⟩ v).cell? ⟨c, 4, none⟩ = none := by
  rw [World.cell?_setCell_other _ _ _ _ (by simp [hi])]; exact hc
theorem Rp.Box3.dr {w : World} {c : Nat} {x y z : Int} (h : Rp.Box3 w c x y z) : Rp.Box3 w.drew c x y z := ⟨h.c0, h.c1, h.c2, h.f0, h.f1, h.f2, h.n5, h.n4⟩
theorem Rp.Box3.write {w : World} {c : Nat} {x y z : Int} (h : Rp.Box3 w c x y z) (x' y' z' : Int) : Rp.Box3 (((w.setCell ⟨c, 0, none⟩ (.int .i64 x')).setCell ⟨c, 1, none⟩ (.int .i64 y')).setCell ⟨c, 2, none⟩ (.int .i64 z')) c x' y' z' := by
  obtain ⟨c0, c1, c2, f0, f1, f2, n5, n4⟩ := h
  refine ⟨?_, ?_, ?_, ?_, ?_, ?_, Rp.n5_set (by decide) (Rp.n5_set (by decide) (Rp.n5_set (by decide) n5)), Rp.n4_set (by decide) (Rp.n4_set (by decide) (Rp.n4_set (by decide) n4))⟩
  all_goals simp [go_sem, c0, c1, c2, f0, f1, f2]
theorem Rp.Box3.far {w : World} {c d i : Nat} {v : Value} {x y z : Int} (h : Rp.Box3 w c x y z) (hn : d ≠ c) : Rp.Box3 (w.setCell ⟨d, i, none⟩ v) c x y z := by
  obtain ⟨c0, c1, c2, f0, f1, f2, n5, n4⟩ := h
  exact ⟨Rp.cell_set c0 hn, Rp.cell_set c1 hn, Rp.cell_set c2 hn, by simpa using f0, by simpa using f1, by simpa using f2, by rw [World.cell?_setCell_other _ _ _ _ (by simp [hn])]; exact n5, by rw [World.cell?_setCell_other _ _ _ _ (by simp [hn])]; exact n4⟩
/-- the counts of a list, asked -/
def Rp.qL (Q : Int → Int → Int → Bool) (l : List UInt8) : Bool := Q l.length (Rp.lns l) (Rn.cnt l)
/-- where the way down leads: a piece, with what stands ahead of it and behind it -/
structure Rp.Way (Q : Int → Int → Int → Bool) (l pre mid post : List UInt8) : Prop where
  text : l = pre ++ mid ++ post
  ahead : pre = [] ∨ Rp.qL Q pre = false
  behind : post = [] ∨ Rp.qL Q (pre ++ mid) = true
/-- the round's relation: k rounds at most are to come -/
def Rp.DInv (w : World) (l : List UInt8) (Q : Int → Int → Int → Bool) (k : Nat) (p : Value) (wr : World) : Prop :=
  ∃ b t pre post, p = .pointer (some ⟨b, 0, none⟩) ∧ t.ht ≤ k ∧ Rp.IsPart wr b t ∧ t.Good ∧ Rp.Way Q l pre t.toL post ∧ Rp.Box3 wr (w.heap.size + 2) pre.length (Rp.lns pre) (Rn.cnt pre) ∧ Rp.Box3 wr (w.heap.size + 1) 0 0 0 ∧ Below w.heap.size w wr
/-- what down answers -/
def Rp.DPost (w : World) (l : List UInt8) (Q : Int → Int → Int → Bool) (e : Ending) (w' : World) : Prop :=
  ∃ c pre u post, e = .returned (.tuple #[.agg #[.int .i64 pre.length, .int .i64 (Rp.lns pre), .int .i64 (Rn.cnt pre)], .pointer (some ⟨c, 0, none⟩)]) ∧ w'.cell? ⟨c, 4, none⟩ = some (.string u) ∧ u.size ≤ 64 ∧ Rp.Way Q l pre u.data.toList post ∧ Below w.heap.size w w'
/-- behind the sum of what stands ahead and the left part -/
def Rp.Sum4 (wr : World) (pre m : List UInt8) (s : Value) (wx : World) : Prop := ∃ g : Nat, s = .pointer (some ⟨g, 0, none⟩) ∧ wr.heap.size ≤ g ∧ Rp.Box3 wx g ((pre.length : Int) + m.length) ((Rp.lns pre : Int) + Rp.lns m) (Rn.cnt pre + Rn.cnt m) ∧ Below wr.heap.size wr wx
set_option maxRecDepth 100000 in
set_option maxHeartbeats 2000000 in
theorem down_any (K : FuncId) (cap : Array Value) (a : Nat) (t : Tr) (Q : Int → Int → Int → Bool) (w : World) (ha : Rp.IsPart w a t) (ga : t.Good) (hl : t.len ≤ 1000000)
    (hent : ∀ args w, (callFunc K args).run Try.prog w = .ok (.enter K args) w)
    (hQ : ∀ (x y z : Int) (v : World), Below w.heap.size w v → Calls Try.prog K (#[.agg #[.int .i64 x, .int .i64 y, .int .i64 z]] ++ cap) v (Rp.BPost v (Q x y z))) :
    Calls Try.prog 70 #[.agg #[.pointer (some ⟨a, 0, none⟩)], .func (.func K) #[] cap] w (Rp.DPost w t.toL Q) := by
  have HQ := Lib.hid hQ; clear hQ
  go_enter Try.func70, Try.ntmps70
  go_wp2_with fail
  go_loopg [7] t.ht (fun k p wr => Rp.DInv w t.toL Q k p wr)
  case atStart =>
    refine ⟨a, t, [], [], rfl, Nat.le_refl _, ha.up (Rp.below_al3 _ _ _ _), ga, ⟨by simp, .inl rfl, .inl rfl⟩, ?_, ?_, Rp.below_al3 _ _ _ _⟩
    · constructor <;> simp [go_sem, Rp.lns, Rn.cnt]
    · constructor <;> simp [go_sem]
  case round =>
    obtain ⟨b, t', pre, post, rfl, hk, hb, g, hway, hs, hr, hbw⟩ := hrel
    have n0 : w.heap.size + 2 ≠ w.heap.size + 1 := by omega
    have m1 : w.heap.size ≤ w.heap.size + 1 := by omega
    have m2 : w.heap.size ≤ w.heap.size + 2 := by omega
    cases t' with
    | leaf u =>
      obtain ⟨c0, c1, c2, c3, c4, c5, _⟩ : Rp.Cells wr b (.leaf u) none none := hb
      obtain ⟨g1, g2⟩ : 1 ≤ u.size ∧ u.size ≤ 64 := g
      have nb : w.heap.size + 1 ≠ b := by
        rintro rfl
        have := hr.c0
        rw [c0, Rp.len_leaf] at this
        simp at this; rw [this] at g1; simp at g1
      obtain ⟨s0, s1, s2, _, _, _, _, _⟩ := hs
      have hr' := hr
      obtain ⟨r0, r1, r2, q0, q1, q2, _, _⟩ := hr
      have c4' : wr.cell? ⟨b, 4, none⟩ = some (.string u) := c4
      clear c0 c1 c2 c3 c4
      go_wp2_with (go_at_call 61; refine (single_any _ none _ c5).mono ?_; rintro e w1 ⟨rfl, rfl⟩)
      refine bodyPost_ret (v := .tuple #[.agg #[.int .i64 pre.length, .int .i64 (Rp.lns pre), .int .i64 (Rn.cnt pre)], .pointer (some ⟨b, 0, none⟩)]) (by simp [results, Try.results70, go_sem, r0, r1, r2]) rfl ⟨b, pre, u, post, rfl, Rp.cell_set (Rp.cell_set (Rp.cell_set c4' nb) nb) nb, g2, hway, ((hbw.setCell m1 _).setCell m1 _).setCell m1 _⟩
    | node l r =>
      obtain ⟨x, y, ⟨_, _, _, _, _, b5, b6⟩, hx, hy⟩ := hb
      obtain ⟨_, _, ⟨x0, x1, x2, _, _, _, _⟩⟩ := hx.cells
      obtain ⟨gl, gr, _, _, _⟩ := g
      have hch := Rp.child_hts l r
      have hlen : pre.length + l.len + r.len + post.length ≤ 1000000 := by
        have := congrArg List.length hway.text
        have e1 : (Tr.node l r).toL = l.toL ++ r.toL := rfl
        rw [e1] at this
        simp at this
        have e2 : t.toL.length = t.len := rfl
        have e3 : l.toL.length = l.len := rfl
        have e4 : r.toL.length = r.len := rfl
        omega
      have k1 := Rp.lns_le pre; have k2 := Rp.lns_le l.toL
      have k3 := Rn.cnt_bd pre; have k4 := Rn.cnt_bd l.toL
      have el : l.toL.length = l.len := rfl
      rw [el] at k2 k4
      have EL := Lib.hid el; clear el
      have hs' := hs
      obtain ⟨s0, s1, s2, _, _, _, _, _⟩ := hs
      have lN2 : w.heap.size + 2 < wr.heap.size := World.block_lt_of_cell? wr _ s0
      have lb : b < wr.heap.size := World.block_lt_of_cell? wr _ b5
      have nb2 : w.heap.size + 2 ≠ b := by
        rintro rfl
        have := hs'.n5
        rw [b5] at this
        simp at this
      have nx := World.new_ne wr _ x0
      have ns := World.new_ne wr _ s0
      have nb5 := World.new_ne wr _ b5
      go_upto_region 4 with (go_at_call 61; refine (single_any _ (some ⟨x, 0, none⟩) _ b5).mono ?_; rintro e w1 ⟨rfl, rfl⟩)
      go_cut [8] (fun s8 wx => Rp.Sum4 wr pre l.toL s8 wx)
      case first =>
        go_region_held3 (fun v => v.cell? ⟨w.heap.size + 2, 0, none⟩ = some (.int .i64 pre.length) ∧ v.cell? ⟨w.heap.size + 2, 1, none⟩ = some (.int .i64 (Rp.lns pre)) ∧ v.cell? ⟨w.heap.size + 2, 2, none⟩ = some (.int .i64 (Rn.cnt pre)) ∧ v.cell? ⟨b, 5, none⟩ = some (.pointer (some ⟨x, 0, none⟩)) ∧ v.cell? ⟨x, 0, none⟩ = some (.int .i64 l.len) ∧ v.cell? ⟨x, 1, none⟩ = some (.int .i64 (Rp.lns l.toL)) ∧ v.cell? ⟨x, 2, none⟩ = some (.int .i64 (Rn.cnt l.toL)))
          (first
            | (refine ⟨?_, ?_, ?_, ?_, ?_, ?_, ?_⟩ <;> with_reducible (refine Rp.cell_dr ?_; assumption))
            | (refine ⟨?_, ?_, ?_, ?_, ?_, ?_, ?_⟩ <;> with_reducible (refine Rp.cell_dr ?_; refine Rp.cell_al ?_; assumption))
            | (refine ⟨?_, ?_, ?_, ?_, ?_, ?_, ?_⟩ <;> with_reducible (refine Rp.cell_up hb1 ?_; refine Rp.cell_dr ?_; assumption))
            | (refine ⟨?_, ?_, ?_, ?_, ?_, ?_, ?_⟩ <;> with_reducible (refine Rp.cell_up hb1 ?_; refine Rp.cell_dr ?_; refine Rp.cell_al ?_; assumption))
            | (refine ⟨?_, ?_, ?_, ?_, ?_, ?_, ?_⟩ <;> with_reducible (refine Rp.cell_al ?_; refine Rp.cell_up hb1 ?_; refine Rp.cell_dr ?_; assumption))
            | (refine ⟨?_, ?_, ?_, ?_, ?_, ?_, ?_⟩ <;> with_reducible (refine Rp.cell_set (Rp.cell_set (Rp.cell_set ?_ ?_) ?_) ?_ <;> first | (refine Rp.cell_up hb1 ?_; refine Rp.cell_dr ?_; refine Rp.cell_al ?_; assumption) | assumption)))
          (first
            | (go_at_call 58; refine (plus_any _ _ _ _ _ _ _ (by omega) (by omega) (by omega) (by omega) (by omega) (by omega)).mono ?_; rintro e w1 ⟨rfl, hb1⟩; (with_reducible have NK := Rp.new_kept hb1); obtain ⟨n0, n1, n2, f0, f1, f2⟩ := NK)
            | (go_at_call 58; refine (plus_any _ _ _ _ _ _ _ (by omega) (by omega) (by omega) (by omega) (by omega) (by omega)).mono ?_; rintro e w1 ⟨rfl, hb1⟩))
        · go_wp2_with fail
          go_meet
          refine ⟨w1.heap.size, rfl, hb1.size, ?_, ((Below.refl _ _).drew.trans hb1).alloc hb1.size _⟩
          rw [EL.out]
          constructor <;> simp [go_sem]
        · go_wp2_with fail
          go_meet
          have hb2 : Below wr.heap.size wr w1 := (((Below.refl wr.heap.size wr).alloc (Nat.le_refl _) _).drew.trans (hb1.mono (by simp [go_sem])))
          refine ⟨wr.heap.size, rfl, Nat.le_refl _, ?_, ((hb2.setCell (Nat.le_refl _) _).setCell (Nat.le_refl _) _).setCell (Nat.le_refl _) _⟩
          rw [EL.out]
          have n5 : w1.cell? ⟨wr.heap.size, 5, none⟩ = none := by rw [hb1.cell (by simp [go_sem])]; simp [go_sem]
          have n4 : w1.cell? ⟨wr.heap.size, 4, none⟩ = none := by rw [hb1.cell (by simp [go_sem])]; simp [go_sem]
          exact Rp.Box3.write ⟨n0, n1, n2, f0, f1, f2, n5, n4⟩ _ _ _
      case rest =>
        obtain ⟨gg, rfl, hgg, hg, hbx⟩ := hcut
        have hbg := hg
        obtain ⟨g0, g1, g2, _, _, _, _, _⟩ := hg
        replace b5 := Rp.cell_up hbx b5
        clear s0 s1 s2 x0 x1 x2
        go_wp2_with fail
        refine (HQ.out _ _ _ wc (Rp.below_up hbw hbx)).mono ?_
        rintro e wz ⟨rfl, hbz⟩
        have hxz := Rp.below_up hbx hbz
        have hwz := Rp.below_up hbw hxz
        replace b5 := Rp.cell_up hbz b5
        replace b6 := Rp.cell_up hxz b6
        have hsz := hs'.up hxz
        have hrz := hr.up hxz
        have hgz := hbg.up hbz
        have hX := hx.up hxz
        have hY := hy.up hxz
        have hqe : Rp.qL Q (pre ++ l.toL) = Q ((pre.length : Int) + l.toL.length) ((Rp.lns pre : Int) + Rp.lns l.toL) (Rn.cnt pre + Rn.cnt l.toL) := by
          unfold Rp.qL; rw [Rp.lns_append, Rp.cnt_append, List.length_append]; simp
        have HQE := Lib.hid hqe; clear hqe
        have wt := hway.text
        have wa := hway.ahead
        have wb := hway.behind
        have ent : (Tr.node l r).toL = l.toL ++ r.toL := rfl
        rw [ent] at wt wb
        have WT := Lib.hid wt; have WA := Lib.hid wa; have WB := Lib.hid wb
        clear wt wa wb ent g0 g1 g2 hs' hbg
        rcases Bool.eq_false_or_eq_true (Q ((pre.length : Int) + l.toL.length) ((Rp.lns pre : Int) + Rp.lns l.toL) (Rn.cnt pre + Rn.cnt l.toL)) with hq | hq
        · go_wp2_with fail
          go_roundg l.ht
          case measure => omega
          case rel =>
            refine ⟨x, l, pre, r.toL ++ post, rfl, Nat.le_refl _, hX, gl, ⟨?_, WA.out, .inr (by rw [HQE.out]; exact hq)⟩, hsz, hrz, hwz⟩
            rw [WT.out]; simp [List.append_assoc]
        · have hsz' := hsz
          obtain ⟨s0, s1, s2, sf0, sf1, sf2, _, _⟩ := hsz
          obtain ⟨g0, g1, g2, _, _, _, _, _⟩ := hgz
          have ng : w.heap.size + 2 ≠ gg := by omega
          go_wp2_with fail
          go_region_held3 (fun v => v.cell? ⟨gg, 0, none⟩ = some (.int .i64 ((pre.length : Int) + l.toL.length)) ∧ v.cell? ⟨gg, 1, none⟩ = some (.int .i64 ((Rp.lns pre : Int) + Rp.lns l.toL)) ∧ v.cell? ⟨gg, 2, none⟩ = some (.int .i64 (Rn.cnt pre + Rn.cnt l.toL)) ∧ v.cell? ⟨b, 6, none⟩ = some (.pointer (some ⟨y, 0, none⟩)))
            (first
              | (refine ⟨?_, ?_, ?_, ?_⟩ <;> with_reducible (refine Rp.cell_dr ?_; assumption))
              | (refine ⟨?_, ?_, ?_, ?_⟩ <;> with_reducible (refine Rp.cell_dr ?_; refine Rp.cell_set (Rp.cell_set (Rp.cell_set ?_ ?_) ?_) ?_ <;> assumption)))
            (fail)
          all_goals
            go_wp2_with fail
            go_roundg r.ht
            case measure => omega
            case rel =>
              have n5 := hsz'.n5
              have B := hsz'.write ((pre.length : Int) + l.toL.length) ((Rp.lns pre : Int) + Rp.lns l.toL) (Rn.cnt pre + Rn.cnt l.toL)
              have e1 : (((pre ++ l.toL).length : Nat) : Int) = (pre.length : Int) + l.toL.length := by simp
              have e3 : ((Rp.lns (pre ++ l.toL) : Nat) : Int) = (Rp.lns pre : Int) + Rp.lns l.toL := by rw [Rp.lns_append]; simp
              refine ⟨y, r, pre ++ l.toL, post, rfl, Nat.le_refl _, (((hY.far n5 _).far (Rp.n5_set (by decide) n5) _).far (Rp.n5_set (by decide) (Rp.n5_set (by decide) n5)) _).dr, gr, ⟨?_, .inr (by rw [HQE.out]; exact hq), ?_⟩, ?_, (((hrz.far n0).far n0).far n0).dr, (((hwz.setCell m2 _).setCell m2 _).setCell m2 _).drew⟩
              · rw [WT.out]; simp [List.append_assoc]
              · rw [List.append_assoc]; exact WB.out
              · rw [e1, e3, Rp.cnt_append]; exact B.dr
open Go.RowKit
open Rp (Tr)
set_option maxHeartbeats 400000 in
theorem clAt_any (c : Nat) (i x y z : Int) (w : World) (hc : w.cell? ⟨c, 0, none⟩ = some (.int .i64 i)) : Calls Try.prog 71 #[.agg #[.int .i64 x, .int .i64 y, .int .i64 z], .pointer (some ⟨c, 0, none⟩)] w (Rp.BPost w (decide (i < x))) := by
  have lt : c < w.heap.size := World.block_lt_of_cell? w _ hc
  go_enter Try.func71, Try.ntmps71
  go_wp2
  all_goals
    go_ret
    exact ⟨ret_bool (by simp [*]), Rp.below_al _ _⟩
theorem entAt : ∀ args w, (callFunc 71 args).run Try.prog w = .ok (.enter 71 args) w := enters_of Try.func71 (by kernel_rfl) rfl
end Go.Proofs.Ytigibeioapkgiaa
