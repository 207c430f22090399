/- The law EditMoves, walked. -/
import Derived.Test.YtigibeioapkgiaaEdS
import Derived.Test.YtigibeioapkgiaaEdK
namespace Go.Proofs.Ytigibeioapkgiaa
set_option linter.unusedVariables false
set_option linter.unusedSimpArgs false
open Go.RowKit
def Ed.OInv (w : World) (es : List Ed.E) (x : Int) (g : Nat) (v : Value) (wr : World) : Prop :=
  ∃ k : Nat, g + k = es.length ∧ v = .int .i64 k ∧ (∀ e ∈ es.take k, x < e.pos ∨ e.pos + e.del < x) ∧ Below w.heap.size w wr
theorem Ed.mv_turn {s T : ByteArray} {es : List Ed.E} {x : Int} {after : Bool} (hM : Ed.May s.size 0 es) (hT : (T.size : Int) = s.size + Ed.grows es) (ho : Ed.Out x es) : Ed.mv (Ed.mv x after es 0 x) after (Ed.bk s 0 es) 0 (Ed.mv x after es 0 x) = x := by
  have := Ed.mv_back (s := s) (n := T.size) (x := x) (after := after) (es := es) (t := 0) (g := 0) hM (by omega) (by omega) (by omega) ho
  rw [Int.add_zero, Int.neg_zero, Int.sub_zero] at this
  exact this
set_option maxRecDepth 100000 in
set_option maxHeartbeats 2000000 in
theorem movesLaw_any (s : ByteArray) (a : Option Addr) (es : List Ed.E) (cap : Nat) (x y : Int) (after : Bool) (w : World) (hs : s.size ≤ maxLen) (hR : Ed.Row w a es) (hN : Ed.Nums es) (hcap : es.length ≤ cap) (hcap2 : cap ≤ maxLen) :
    Calls Try.prog 5 #[.string s, .slice a es.length cap, .int .i64 x, .int .i64 y, .bool after] w (Rp.BPost w true) := by
  have HR := Lib.hid hR; clear hR
  by_cases h1 : 2000 < s.size
  · have d1 : decide ((2000 : Int) < s.size) = true := by simp; omega
    go_enter Try.func5, Try.ntmps5
    go_wp2_with (go_at_call 7; refine (alive4_any _).mono ?_; rintro e w1 ⟨rfl, hb1⟩)
    go_ret
    exact ⟨rfl, hb1⟩
  have d1 : decide ((2000 : Int) < s.size) = false := by simp; omega
  have GR := fun (v : World) (h : Below w.heap.size w v) => great_any a es cap v (HR.out.up h)
  rcases Bool.eq_false_or_eq_true (Ed.great es) with hg | hg
  · rw [hg] at GR
    have HG := Lib.hid GR; clear GR hg
    go_enter Try.func5, Try.ntmps5
    go_wp2_with (go_at_call 7; refine (alive4_any _).mono ?_; rintro e w1 ⟨rfl, hb1⟩)
    refine (HG.out _ hb1).mono ?_
    rintro e w2 ⟨rfl, hb2⟩
    go_wp2_with fail
    go_ret
    exact ⟨rfl, Rp.below_up hb1 hb2⟩
  rw [hg] at GR
  have HG := Lib.hid GR
  have HW := Lib.hid (Ed.wf_of hN hg)
  clear GR hg hN
  have hs1 : s.size ≤ 1000000 := by omega
  have RC := fun (v : World) (h : Below w.heap.size w v) => refCheck_any s a es cap v hs1 (HR.out.up h) HW.out
  by_cases h0 : Ed.chk s es 0 0 = 0
  rotate_left
  · have d2 : (Ed.chk s es 0 0 == 0) = false := beq_eq_false_iff_ne.2 h0
    have HRC := Lib.hid RC
    clear RC
    generalize Ed.chk s es 0 0 = z at *
    go_enter Try.func5, Try.ntmps5
    go_wp2_with (go_at_call 7; refine (alive4_any _).mono ?_; rintro e w1 ⟨rfl, hb1⟩)
    refine (HG.out _ hb1).mono ?_
    rintro e w2 ⟨rfl, hb2⟩
    have B := Rp.below_up hb1 hb2
    go_wp2_with fail
    refine (HRC.out w2 B).mono ?_
    rintro e w3 ⟨rfl, hb3⟩
    go_wp2_with fail
    go_ret
    exact ⟨rfl, Rp.below_up B hb3⟩
  rw [h0] at RC
  have HRC := Lib.hid RC
  have HM := Lib.hid (Ed.chk_zero h0).1
  have HT := Lib.hid (Ed.turns (by omega) HW.out h0)
  clear RC h0
  by_cases t1 : x < 0 ∨ (s.size : Int) < x ∨ y < x ∨ (s.size : Int) < y
  · go_enter Try.func5, Try.ntmps5
    go_wp2_with (go_at_call 7; refine (alive4_any _).mono ?_; rintro e w1 ⟨rfl, hb1⟩)
    refine (HG.out _ hb1).mono ?_
    rintro e w2 ⟨rfl, hb2⟩
    have B := Rp.below_up hb1 hb2
    go_wp2_with fail
    refine (HRC.out w2 B).mono ?_
    rintro e w3 ⟨rfl, hb3⟩
    replace B := Rp.below_up B hb3
    clear hb1 hb2 hb3
    by_cases t2 : x < 0
    · have e1 : decide (x < 0) = true := by simp [t2]
      go_wp2_with fail
      go_ret
      exact ⟨rfl, B⟩
    have e1 : decide (x < 0) = false := by simp [t2]
    by_cases t3 : (s.size : Int) < x
    · have e2 : decide ((s.size : Int) < x) = true := by simp [t3]
      clear t1
      go_wp2_with fail
      go_ret
      exact ⟨rfl, B⟩
    have e2 : decide ((s.size : Int) < x) = false := by simp [t3]
    by_cases t4 : y < x
    · have e3 : decide (y < x) = true := by simp [t4]
      clear t1
      go_wp2_with fail
      go_ret
      exact ⟨rfl, B⟩
    have e3 : decide (y < x) = false := by simp [t4]
    have e4 : decide ((s.size : Int) < y) = true := by simp; omega
    clear t1
    go_wp2_with fail
    go_ret
    exact ⟨rfl, B⟩
  have x0 : 0 ≤ x := by omega
  have x1 : x ≤ s.size := by omega
  have xy : x ≤ y := by omega
  have y1 : y ≤ s.size := by omega
  have e1 : decide (x < 0) = false := by simp; omega
  have e2 : decide ((s.size : Int) < x) = false := by simp; omega
  have e3 : decide (y < x) = false := by simp; omega
  have e4 : decide ((s.size : Int) < y) = false := by simp; omega
  clear t1
  have m0 : 0 ≤ Ed.mv x after es 0 x := Ed.mv_low HM.out x0 (by omega)
  have m1 := Ed.mv_high (after := after) x1 HM.out x0 (show x ≤ x + 0 by omega)
  have m2 := Ed.mv_mono (after := after) xy HM.out x0 (show x ≤ x + 0 by omega) xy
  have hTs := HT.out.sum
  have hT4 := HT.out.sz
  have MT := Lib.hid (fun ho => Ed.mv_turn (after := after) (x := x) HM.out HT.out.sum ho)
  have MV := Lib.hid (fun (v : World) (h : Below w.heap.size w v) (z : Int) (hz : z ≤ 1000000) => move_any a es cap s.size z after v (HR.out.up h) HW.out HM.out hs1 hz)
  have RM := Lib.hid (fun (v : World) (h : Below w.heap.size w v) => refMove_any a es cap s.size x after v (HR.out.up h) HW.out HM.out hs1 (by omega))
  have RA := Lib.hid (fun (v : World) (h : Below w.heap.size w v) => refApply_any s a es cap v hs1 (HR.out.up h) HW.out HM.out)
  generalize Rp.ofL (Ed.app s.data.toList es) = T at *
  have f1 : decide (Ed.mv x after es 0 x < 0) = false := by simp; omega
  have f2 : decide ((T.size : Int) < Ed.mv x after es 0 x) = false := by simp; omega
  have f3 : decide (Ed.mv y after es 0 y < Ed.mv x after es 0 x) = false := by simp; omega
  have m3 : Ed.mv x after es 0 x ≤ 1000000 := by omega
  have HMB := Lib.hid (fun (v : World) (b : Option Addr) (c : Nat) (z : Int) (hr : Ed.Row v b (Ed.bk s 0 es)) (hz : z ≤ 1000000) => move_any b (Ed.bk s 0 es) c T.size z after v hr HT.out.wf HT.out.may (by omega) hz)
  clear m0 m1 m2 hTs hT4
  have MVx := Lib.hid (fun (v : World) (h : Below w.heap.size w v) => MV.out v h x (by omega))
  have MVy := Lib.hid (fun (v : World) (h : Below w.heap.size w v) => MV.out v h y (by omega))
  clear MV
  generalize Ed.mv x after es 0 x = tx at *
  generalize Ed.mv y after es 0 y = ty at *
  go_enter Try.func5, Try.ntmps5
  go_wp2_with (go_at_call 7; refine (alive4_any _).mono ?_; rintro e w1 ⟨rfl, hb1⟩)
  refine (HG.out _ hb1).mono ?_
  rintro e w2 ⟨rfl, hb2⟩
  have B := Rp.below_up hb1 hb2
  go_wp2_with fail
  refine (HRC.out w2 B).mono ?_
  rintro e w3 ⟨rfl, hb3⟩
  replace B := Rp.below_up B hb3
  clear hb1 hb2 hb3
  go_wp2_with fail
  refine (MVx.out w3 B).mono ?_
  rintro e w4 ⟨rfl, hb4⟩
  replace B := Rp.below_up B hb4
  clear hb4
  go_wp2_with fail
  refine (RA.out w4 B).mono ?_
  rintro e w5 ⟨rfl, hb5⟩
  replace B := Rp.below_up B hb5
  clear hb5
  go_wp2_with fail
  refine (RM.out w5 B).mono ?_
  rintro e w6 ⟨rfl, hb6⟩
  replace B := Rp.below_up B hb6
  clear hb6
  go_wp2_with fail
  refine (MVy.out w6 B).mono ?_
  rintro e w7 ⟨rfl, hb7⟩
  replace B := Rp.below_up B hb7
  clear hb7
  go_wp2_with fail
  go_loopg [13] es.length (fun g v wr => Ed.OInv w es x g v wr)
  case atStart => exact ⟨0, by omega, rfl, fun e he => by simp at he, B⟩
  case round =>
    clear B e1 e2 e3 e4 f1 f2 f3
    obtain ⟨k, hgk, rfl, hall, B⟩ := hrel
    have HA := Lib.hid hall; clear hall
    by_cases hk : k < es.length
    · obtain ⟨ad, rfl, hE⟩ := HR.out k hk
      obtain ⟨e0, e1, e2⟩ := hE.up B
      obtain ⟨_, u2, u3, _⟩ := Ed.May.drop k hk HM.out
      obtain ⟨u1, _, _, _⟩ := Ed.May.drop k hk HM.out
      have k1 : (0 : Int) ≤ (k : Int) := by omega
      have k2 : (k : Int) < (es.length : Int) := by omega
      have HTk := Lib.hid (Ed.take_at hk)
      have hkl : k ≤ 1000 := by have := HW.out.len; omega
      clear hE
      generalize es[k] = e at *
      have hw : IntKind.i64.wrap (e.pos + e.del) = e.pos + e.del := IntWalk.i64_in _ (by omega)
      by_cases c1 : e.pos ≤ x
      · have g1 : decide (e.pos ≤ x) = true := by simp [c1]
        by_cases c2 : x ≤ e.pos + e.del
        · have g2 : decide (x ≤ e.pos + e.del) = true := by simp [c2]
          clear c1 c2
          go_wp2_with fail
          go_quiet (fail)
          go_wp2_with fail
          go_ret
          exact ⟨rfl, Rp.below_drewN B _⟩
        · have g2 : decide (x ≤ e.pos + e.del) = false := by simp [c2]
          have HC := Lib.hid c2
          clear c1 c2
          go_wp2_with fail
          go_quiet (fail)
          go_wp2_with fail
          go_roundg (gk - 1)
          case measure => omega
          refine ⟨k + 1, by omega, by go_num, fun z hz => ?_, Rp.below_drewN B _⟩
          rw [HTk.out] at hz
          rcases List.mem_append.1 hz with hz | hz
          · exact HA.out z hz
          · simp at hz; subst hz; right; have := HC.out; omega
      · have g1 : decide (e.pos ≤ x) = false := by simp [c1]
        have HC := Lib.hid c1
        clear c1
        go_wp2_with fail
        go_quiet (fail)
        go_wp2_with fail
        go_roundg (gk - 1)
        case measure => omega
        refine ⟨k + 1, by omega, by go_num, fun z hz => ?_, Rp.below_drewN B _⟩
        rw [HTk.out] at hz
        rcases List.mem_append.1 hz with hz | hz
        · exact HA.out z hz
        · simp at hz; subst hz; left; have := HC.out; omega
    · have k2 : ¬ (k : Int) < (es.length : Int) := by omega
      have ho : Ed.Out x es := by
        have := HA.out
        rw [List.take_of_length_le (by omega)] at this
        exact this
      have hmt := MT.out ho
      have HMT := Lib.hid hmt
      clear hmt ho MT
      go_wp2_with fail
      refine (refBack_any s a es cap wr hs1 (HR.out.up B) HW.out HM.out hcap hcap2).mono ?_
      rintro e w9 ⟨a9, cap9, rfl, R9, hb9⟩
      replace B := Rp.below_up B hb9
      clear hb9
      go_wp2_with fail
      have MB := HMB.out w9 a9 cap9 tx R9 m3
      rw [HMT.out] at MB
      refine MB.mono ?_
      rintro e w10 ⟨rfl, hb10⟩
      go_wp2_with fail
      go_ret
      exact ⟨by first | rfl | simp, Rp.below_up B hb10⟩
end Go.Proofs.Ytigibeioapkgiaa
