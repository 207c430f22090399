/- What the document's 'Near' is, and what 'Up' of layer 3 answers, walked. -/
import Derived.Test.YtnjcahcbeicblaaPlE
import Derived.Test.YtnjcahcbeicblaaPlC
namespace Go.Proofs.Ytnjcahcbeicblaa
set_option linter.unusedVariables false
set_option linter.unusedSimpArgs false
open Go.RowKit
open Rp (Tr)
set_option maxRecDepth 100000 in
set_option maxHeartbeats 1000000 in
theorem refNear_far (s : ByteArray) (x y : Int) (w : World) (hs : s.size ≤ 1000000) (h : (Rp.lns s.data.toList : Int) < x) : Calls Try.prog 32 #[.string s, .agg #[.int .i64 x, .int .i64 y]] w (Rp.IPost w s.size) := by
  have d1 : decide (x < 0) = false := by simp; omega
  have d2 : decide ((Rp.lns s.data.toList : Int) + 1 ≤ x) = true := by simp; omega
  have B := Pl.box2_new (v := w) x y 46
  have hbw := Rp.below_al w (.cells #[.int .i64 x, .int .i64 y] 46)
  go_enter Try.func32, Try.ntmps32
  go_wp2_with fail
  have c0 := B.c0
  generalize w.alloc (.cells #[.int .i64 x, .int .i64 y] 46) = W at *
  go_region_held3 (fun v => v.cell? ⟨w.heap.size, 0, none⟩ = some (.int .i64 x) ∧ Below w.heap.size w v)
    (first
      | (refine ⟨?_, ?_⟩ <;> with_reducible (first | (refine Rp.cell_dr ?_; assumption) | (refine Rp.below_dr ?_; assumption)))
      | (go_split_ands; refine ⟨?_, ?_⟩ <;> with_reducible (first | (refine Rp.cell_up hb1 ?_; assumption) | (refine Rp.below_up ?_ hb1; assumption))))
    (first
      | (go_at_call 22; go_split_ands; refine (refLinesP_any s _ hs).mono ?_; rintro e w1 ⟨rfl, hb1⟩))
  all_goals
    go_split_ands
    go_wp2_with fail
    go_ret
    exact ⟨rfl, by assumption⟩
theorem Pl.Box2.frz {v : World} {c : Nat} {x y : Int} (h : Pl.Box2 v c x y) : v.frozen? ⟨c, 1, none⟩ = false := h.f1
set_option maxRecDepth 100000 in
set_option maxHeartbeats 1000000 in
theorem refNear_yes (s : ByteArray) (k f t : Nat) (y : Int) (w : World) (hs : s.size ≤ 1000000) (R : Pl.Row s.data.toList k f t) (hy : 0 ≤ y) : Calls Try.prog 32 #[.string s, .agg #[.int .i64 k, .int .i64 y]] w (Rp.IPost w ((f : Int) + Rn.cut (s.extract f t) y)) := by
  have hkl := R.kl
  have hft := R.ft
  have htl := R.tl
  rw [Rn.len_data0] at htl
  have d1 : decide ((k : Int) < 0) = false := by simp
  have d2 : decide ((Rp.lns s.data.toList : Int) + 1 ≤ (k : Int)) = false := by simp; omega
  have d3 : decide (y < 0) = false := by simp; omega
  have hall := Pl.ext_all s f t hft htl
  have hw0 := R.width
  have HFar := Lib.hid (fun n h => Pl.cut_far (s.extract f t) n h)
  have HALL := Lib.hid hall; clear hall
  have B := Pl.box2_new (v := w) k y 46
  have hbw := Rp.below_al w (.cells #[.int .i64 k, .int .i64 y] 46)
  go_enter Try.func32, Try.ntmps32
  go_wp2_with fail
  generalize w.alloc (.cells #[.int .i64 k, .int .i64 y] 46) = W at *
  have c0 := B.c0
  go_region_held3 (fun v => v.cell? ⟨w.heap.size, 0, none⟩ = some (.int .i64 k) ∧ Pl.Box2 v w.heap.size k y ∧ Below w.heap.size w v)
    (first
      | (refine ⟨?_, ?_, ?_⟩ <;> with_reducible (first | (refine Rp.cell_dr ?_; assumption) | (refine Pl.Box2.up (Below.refl _ _).drew ?_; assumption) | (refine Rp.below_dr ?_; assumption)))
      | (go_split_ands; refine ⟨?_, ?_, ?_⟩ <;> with_reducible (first | (refine Rp.cell_up hb1 ?_; assumption) | (refine Pl.Box2.up hb1 ?_; assumption) | (refine Rp.below_up ?_ hb1; assumption))))
    (first
      | (go_at_call 22; go_split_ands; refine (refLinesP_any s _ hs).mono ?_; rintro e w1 ⟨rfl, hb1⟩))
  all_goals
    clear c0 B hbw
    obtain ⟨_, B1, be1⟩ := ‹w1.cell? ⟨w.heap.size, 0, none⟩ = some (.int .i64 k) ∧ Pl.Box2 w1 w.heap.size k y ∧ Below w.heap.size w w1›
    obtain ⟨c0, c1, f0, f1⟩ := B1
    go_wp2_with fail
    refine (refWidth_yes s k f t _ hs R).mono ?_
    rintro e w2 ⟨rfl, hb2⟩
    have B2 := Pl.Box2.up hb2 ⟨c0, c1, f0, f1⟩
    have be2 := Rp.below_up be1 hb2
    clear c0 c1 f0 f1 be1 hb1 hb2
    generalize hwd : Rn.cnt (s.data.toList.take t) - Rn.cnt (s.data.toList.take f) = wd at *
    by_cases hyw : wd < y
    · have B3 := B2.set1 wd
      have be3 := be2.setCell (p := ⟨w.heap.size, 1, none⟩) (Nat.le_refl _) (.int .i64 wd)
      obtain ⟨c0, c1, f0, f1⟩ := B2
      clear hwd
      go_wp2_with fail
      obtain ⟨n0, n1, _, _⟩ := B3
      first
        | (go_wp2_with fail)
        | skip
      refine (refAt_cut s k f t wd _ hs R hw0).mono ?_
      rintro e w3 ⟨rfl, hb3⟩
      have be4 := Rp.below_up be3 hb3
      go_wp2_with fail
      go_ret
      refine ⟨ret_int ?_, be4⟩
      have e2 := HFar.out wd (by rw [HALL.out]; exact Int.le_refl _)
      have e3 := HFar.out y (by rw [HALL.out]; omega)
      rw [e2, e3]
    · have hd : decide (wd < y) = false := by simp; omega
      obtain ⟨c0, c1, f0, f1⟩ := B2
      clear hwd
      go_wp2_with fail
      refine (refAt_cut s k f t y _ hs R hy).mono ?_
      rintro e w3 ⟨rfl, hb3⟩
      have be4 := Rp.below_up be2 hb3
      go_wp2_with fail
      go_ret
      exact ⟨rfl, be4⟩
/-- the place near a mark whose column is not below 0 -/
def Pl.NearIs (s : ByteArray) (x y n : Int) : Prop :=
  (x < 0 ∧ n = 0) ∨ ((Rp.lns s.data.toList : Int) < x ∧ n = s.size) ∨ ∃ k f t : Nat, x = k ∧ Pl.Row s.data.toList k f t ∧ n = (f : Int) + Rn.cut (s.extract f t) y
def Pl.NPost (w : World) (s : ByteArray) (x y : Int) (e : Ending) (w' : World) : Prop := ∃ n, Pl.NearIs s x y n ∧ Rp.IPost w n e w'
theorem near_any (p : Option Addr) (s : ByteArray) (x y : Int) (w : World) (hp : Rp.Rep w p s.data.toList) (hs : s.size ≤ 1000000) (hy : y ≤ 2 ^ 63 - 1) : Calls Try.prog 31 #[.agg #[.pointer p], .agg #[.int .i64 x, .int .i64 y]] w (Pl.NPost w s x y) := by
  by_cases h1 : x < 0
  · exact (near_low p x y w h1).mono fun e w' h => ⟨0, .inl ⟨h1, rfl⟩, h⟩
  · by_cases h2 : (Rp.lns s.data.toList : Int) < x
    · refine (near_far p s.data.toList x y w hp h2).mono fun e w' h => ⟨s.size, .inr (.inl ⟨h2, rfl⟩), ?_⟩
      rw [Rn.len_data0] at h; exact h
    · obtain ⟨k, rfl⟩ := Int.eq_ofNat_of_zero_le (Int.not_lt.1 h1)
      obtain ⟨f, t, R⟩ := Pl.row_ex s.data.toList k (by omega)
      exact (near_yes p s k f t y w hp hs R hy).mono fun e w' h => ⟨_, .inr (.inr ⟨k, f, t, rfl, R, rfl⟩), h⟩
theorem refNear_any (s : ByteArray) (x y n : Int) (w : World) (hs : s.size ≤ 1000000) (hx : 0 ≤ x) (hy : 0 ≤ y) (h : Pl.NearIs s x y n) : Calls Try.prog 32 #[.string s, .agg #[.int .i64 x, .int .i64 y]] w (Rp.IPost w n) := by
  rcases h with ⟨h1, _⟩ | ⟨h1, rfl⟩ | ⟨k, f, t, rfl, R, rfl⟩
  · omega
  · exact refNear_far s x y w hs h1
  · exact refNear_yes s k f t y w hs R hy
end Go.Proofs.Ytnjcahcbeicblaa
