/- What the functions of layer 3 answer, walked. -/
import Derived.Test.YtnjcahcbeicblaaPlA
namespace Go.Proofs.Ytnjcahcbeicblaa
set_option linter.unusedVariables false
set_option linter.unusedSimpArgs false
open Go.RowKit
open Rp (Tr)
/-- a mark's two cells, that may be written -/
structure Pl.Box2 (v : World) (c : Nat) (x y : Int) : Prop where
  c0 : v.cell? ⟨c, 0, none⟩ = some (.int .i64 x)
  c1 : v.cell? ⟨c, 1, none⟩ = some (.int .i64 y)
  f0 : v.frozen? ⟨c, 0, none⟩ = false
  f1 : v.frozen? ⟨c, 1, none⟩ = false
theorem Pl.Box2.up {v v' : World} (hb : Below v.heap.size v v') {c : Nat} {x y : Int} (h : Pl.Box2 v c x y) : Pl.Box2 v' c x y :=
  ⟨Rp.cell_up hb h.c0, Rp.cell_up hb h.c1, Rp.frz_up hb h.c0 h.f0, Rp.frz_up hb h.c1 h.f1⟩
theorem Pl.box2_new {v : World} (x y : Int) (t : TypeId) : Pl.Box2 (v.alloc (.cells #[.int .i64 x, .int .i64 y] t)) v.heap.size x y := by constructor <;> simp [go_sem]
/-- what a frame lays: the rope, a mark -/
structure Pl.Fm (w : World) (p : Option Addr) (x y : Int) (v : World) : Prop where
  rope : v.cell? ⟨w.heap.size, 0, none⟩ = some (.pointer p)
  box : Pl.Box2 v (w.heap.size + 1) x y
  be : Below w.heap.size w v
theorem Pl.fm_new (w : World) (p : Option Addr) (x y : Int) : Pl.Fm w p x y ((w.alloc (.cells #[.pointer p] 26)).alloc (.cells #[.int .i64 x, .int .i64 y] 46)) :=
  ⟨by simp [go_sem], by constructor <;> simp [go_sem], Rp.below_al2 _ _ _⟩
theorem Pl.Fm.up {w v v' : World} {p : Option Addr} {x y : Int} (h : Pl.Fm w p x y v) (hb : Below v.heap.size v v') : Pl.Fm w p x y v' := ⟨Rp.cell_up hb h.rope, h.box.up hb, Rp.below_up h.be hb⟩
/-- a mark and a number are answered -/
def Pl.MPost (w : World) (x y n : Int) (e : Ending) (w' : World) : Prop := e = .returned (.tuple #[.agg #[.int .i64 x, .int .i64 y], .int .i64 n]) ∧ Below w.heap.size w w'
set_option maxHeartbeats 1000000 in
theorem mark_no (p : Option Addr) (l : List UInt8) (i : Int) (w : World) (hp : Rp.Rep w p l) (h : i < 0 ∨ (l.length : Int) < i) : Calls Try.prog 20 #[.agg #[.pointer p], .int .i64 i] w (Pl.MPost w 0 0 3) := by
  have m2 : w.heap.size ≤ w.heap.size + 1 := by omega
  by_cases h1 : i < 0
  · have d1 : decide (i < 0) = true := by simp; omega
    clear h
    go_enter Try.func20, Try.ntmps20
    go_wp2_with fail
    have F := Pl.fm_new w p 0 0
    generalize (w.alloc (.cells #[.pointer p] 26)).alloc (.cells #[.int .i64 0, .int .i64 0] 46) = W at *
    obtain ⟨x0, ⟨c0, c1, f0, f1⟩, be⟩ := F
    go_wp2_with fail
    exact bodyPost_ret (v := .tuple #[.agg #[.int .i64 0, .int .i64 0], .int .i64 3]) (by simp [results, Try.results20, go_sem, c0, c1]) rfl ⟨rfl, be⟩
  · have d1 : decide (i < 0) = false := by simp; omega
    have d2 : decide ((l.length : Int) < i) = true := by simp; omega
    clear h
    go_enter Try.func20, Try.ntmps20
    go_wp2_with fail
    have F := Pl.fm_new w p 0 0
    have hpW := hp.up F.be
    generalize (w.alloc (.cells #[.pointer p] 26)).alloc (.cells #[.int .i64 0, .int .i64 0] 46) = W at *
    refine (len_any p l _ hpW).mono ?_
    rintro e w1 ⟨rfl, hb1⟩
    replace F := F.up hb1
    obtain ⟨x0, ⟨c0, c1, f0, f1⟩, be⟩ := F
    clear hpW hb1
    go_wp2_with fail
    exact bodyPost_ret (v := .tuple #[.agg #[.int .i64 0, .int .i64 0], .int .i64 3]) (by simp [results, Try.results20, go_sem, c0, c1]) rfl ⟨rfl, (be.setCell m2 _).setCell m2 _⟩
set_option maxHeartbeats 1000000 in
theorem mark_yes (p : Option Addr) (l : List UInt8) (a : Nat) (w : World) (hp : Rp.Rep w p l) (hl : l.length ≤ 1000000) (ha : a ≤ l.length) : Calls Try.prog 20 #[.agg #[.pointer p], .int .i64 a] w (Pl.MPost w (Rp.lns (l.take a)) (Pl.col (l.take a)) 0) := by
  have m2 : w.heap.size ≤ w.heap.size + 1 := by omega
  have d2 : decide (l.length < a) = false := by simp; omega
  have hk := Rp.lns_take_le l a
  have eA : l.take (a : Int).toNat = l.take a := by simp
  have EA := Lib.hid eA; clear eA
  obtain ⟨n, hn⟩ : ∃ n, n = Rp.lns (l.take a) := ⟨_, rfl⟩
  rw [← hn] at hk ⊢
  have HN := Lib.hid hn; clear hn
  go_enter Try.func20, Try.ntmps20
  go_wp2_with fail
  have F := Pl.fm_new w p 0 0
  have hpW := hp.up F.be
  generalize (w.alloc (.cells #[.pointer p] 26)).alloc (.cells #[.int .i64 0, .int .i64 0] 46) = W at *
  refine (len_any p l _ hpW).mono ?_
  rintro e w1 ⟨rfl, hb1⟩
  replace F := F.up hb1
  replace hpW := hpW.up hb1
  have x0 := F.rope
  go_wp2_with fail
  refine (lines_any p l a _ hpW hl).mono ?_
  rw [EA.out, ← HN.out]
  rintro e w2 ⟨rfl, hb2⟩
  replace F := F.up hb2
  replace hpW := hpW.up hb2
  replace x0 := F.rope
  go_wp2_with fail
  refine (rowOf_yes p l n _ hpW hl hk).mono ?_
  rintro e w3 ⟨f, t, R, rfl, hb3⟩
  replace F := (F.up hb3).up (Rp.below_al w3 (.cells #[.int .i64 f, .int .i64 t, .pointer p] 87))
  replace hpW := (hpW.up hb3).al (.cells #[.int .i64 f, .int .i64 t, .pointer p] 87)
  have hc := R.col ha HN.out.symm
  have HC := Lib.hid hc; clear hc R
  clear x0 hb1 hb2 hb3
  go_wp2_with fail
  generalize w3.alloc (.cells #[.int .i64 f, .int .i64 t, .pointer p] 87) = U at *
  refine (column_any p l f t a _ hpW hl).mono ?_
  rw [EA.out, ← HC.out]
  rintro e w4 ⟨rfl, hb4⟩
  replace F := F.up hb4
  clear hpW hb4
  obtain ⟨x0, ⟨c0, c1, f0, f1⟩, be⟩ := F
  go_wp2_with fail
  exact bodyPost_ret (v := .tuple #[.agg #[.int .i64 n, .int .i64 (Pl.col (l.take a))], .int .i64 0]) (by simp [results, Try.results20, go_sem, c0, c1]) rfl ⟨rfl, (be.setCell m2 _).setCell m2 _⟩
set_option maxHeartbeats 1000000 in
theorem linesP_any (p : Option Addr) (l : List UInt8) (w : World) (hp : Rp.Rep w p l) (hl : l.length ≤ 1000000) : Calls Try.prog 21 #[.agg #[.pointer p]] w (Rp.IPost w (1 + (Rp.lns l : Int))) := by
  have hb := Rp.lns_le l
  have eA : l.take (l.length : Int).toNat = l := by simp
  have EA := Lib.hid eA; clear eA
  have hw : IntKind.i64.wrap (1 + (Rp.lns l : Int)) = 1 + (Rp.lns l : Int) := IntWalk.i64_in _ (by omega)
  go_enter Try.func21, Try.ntmps21
  go_wp2_with fail
  have hc0 : (w.alloc (.cells #[.pointer p] 26)).cell? ⟨w.heap.size, 0, none⟩ = some (.pointer p) := by simp [go_sem]
  have hbw := Rp.below_al w (.cells #[.pointer p] 26)
  have hpW := hp.up hbw
  generalize w.alloc (.cells #[.pointer p] 26) = W at *
  go_region_held3 (fun v => v.cell? ⟨w.heap.size, 0, none⟩ = some (.pointer p) ∧ Rp.Rep v p l ∧ Below w.heap.size w v)
    (first
      | (refine ⟨?_, ?_, ?_⟩ <;> with_reducible (first | (refine Rp.cell_dr ?_; assumption) | (refine Rp.Rep.dr ?_; assumption) | (refine Rp.below_dr ?_; assumption)))
      | (go_split_ands; refine ⟨?_, ?_, ?_⟩ <;> with_reducible (first | (refine Rp.cell_up hb2 ?_; assumption) | (refine Rp.Rep.up hb2 ?_; assumption) | (refine Rp.below_up ?_ hb2; assumption)))
      | (go_split_ands; refine ⟨?_, ?_, ?_⟩ <;> with_reducible (first | (refine Rp.cell_up hb1 ?_; assumption) | (refine Rp.Rep.up hb1 ?_; assumption) | (refine Rp.below_up ?_ hb1; assumption))))
    (first
      | (go_at_call 16; go_split_ands; refine (len_any p l _ (by assumption)).mono ?_; rintro e w1 ⟨rfl, hb1⟩)
      | (go_at_call 37; go_split_ands; refine (lines_any p l l.length _ (by assumption) hl).mono ?_; rw [EA.out]; rintro e w2 ⟨rfl, hb2⟩))
  all_goals
    go_wp2_with fail
    go_ret
    go_split_ands
    exact ⟨rfl, by assumption⟩
/-- two numbers are answered -/
def Pl.TPost (w : World) (x n : Int) (e : Ending) (w' : World) : Prop := e = .returned (.tuple #[.int .i64 x, .int .i64 n]) ∧ Below w.heap.size w w'
set_option maxHeartbeats 1000000 in
theorem width_no (p : Option Addr) (l : List UInt8) (i : Int) (w : World) (hp : Rp.Rep w p l) (h : i < 0 ∨ (Rp.lns l : Int) < i) : Calls Try.prog 27 #[.agg #[.pointer p], .int .i64 i] w (Pl.TPost w 0 3) := by
  go_enter Try.func27, Try.ntmps27
  go_wp2_with fail
  have hbw := Rp.below_al w (.cells #[.pointer p] 26)
  refine (rowOf_no p l i _ (hp.up hbw) h).mono ?_
  rintro e w1 ⟨rfl, hb1⟩
  have be := Rp.below_up hbw hb1
  go_wp2_with fail
  go_ret2
  exact ⟨rfl, be.alloc be.size _⟩
set_option maxHeartbeats 1000000 in
theorem width_yes (p : Option Addr) (l : List UInt8) (k f t : Nat) (w : World) (hp : Rp.Rep w p l) (hl : l.length ≤ 1000000) (R : Pl.Row l k f t) : Calls Try.prog 27 #[.agg #[.pointer p], .int .i64 k] w (Pl.TPost w (Rn.cnt (l.take t) - Rn.cnt (l.take f)) 0) := by
  go_enter Try.func27, Try.ntmps27
  go_wp2_with fail
  have hbw := Rp.below_al w (.cells #[.pointer p] 26)
  refine (rowOf_yes p l k _ (hp.up hbw) hl R.kl).mono ?_
  rintro e w1 ⟨f', t', R', rfl, hb1⟩
  obtain ⟨rfl, rfl⟩ := R.one R'
  have be := Rp.below_up hbw hb1
  have hp1 := (hp.up be).al (.cells #[.int .i64 f, .int .i64 t, .pointer p] 87)
  have be1 := be.alloc be.size (.cells #[.int .i64 f, .int .i64 t, .pointer p] 87)
  go_wp2_with fail
  refine (width_any p l f t _ hp1 hl).mono ?_
  rintro e w2 ⟨rfl, hb2⟩
  have be2 := Rp.below_up be1 hb2
  go_wp2_with fail
  go_ret2
  exact ⟨rfl, be2⟩
/-- three numbers are answered -/
def Pl.UPost (w : World) (x y n : Int) (e : Ending) (w' : World) : Prop := e = .returned (.tuple #[.int .i64 x, .int .i64 y, .int .i64 n]) ∧ Below w.heap.size w w'
set_option maxHeartbeats 1000000 in
theorem span_no (p : Option Addr) (l : List UInt8) (i : Int) (w : World) (hp : Rp.Rep w p l) (h : i < 0 ∨ (Rp.lns l : Int) < i) : Calls Try.prog 26 #[.agg #[.pointer p], .int .i64 i] w (Pl.UPost w 0 0 3) := by
  go_enter Try.func26, Try.ntmps26
  go_wp2_with fail
  have hbw := Rp.below_al w (.cells #[.pointer p] 26)
  refine (rowOf_no p l i _ (hp.up hbw) h).mono ?_
  rintro e w1 ⟨rfl, hb1⟩
  have be := Rp.below_up hbw hb1
  go_wp2_with fail
  exact bodyPost_ret (v := .tuple #[.int .i64 0, .int .i64 0, .int .i64 3]) (by simp [results, Try.results26, go_sem]) rfl ⟨rfl, be.alloc be.size _⟩
set_option maxHeartbeats 1000000 in
theorem span_yes (p : Option Addr) (l : List UInt8) (k f t : Nat) (w : World) (hp : Rp.Rep w p l) (hl : l.length ≤ 1000000) (R : Pl.Row l k f t) : Calls Try.prog 26 #[.agg #[.pointer p], .int .i64 k] w (Pl.UPost w f t 0) := by
  go_enter Try.func26, Try.ntmps26
  go_wp2_with fail
  have hbw := Rp.below_al w (.cells #[.pointer p] 26)
  refine (rowOf_yes p l k _ (hp.up hbw) hl R.kl).mono ?_
  rintro e w1 ⟨f', t', R', rfl, hb1⟩
  obtain ⟨rfl, rfl⟩ := R.one R'
  have be := Rp.below_up hbw hb1
  have be1 := be.alloc be.size (.cells #[.int .i64 f, .int .i64 t, .pointer p] 87)
  go_wp2_with fail
  go_quiet (fail)
  go_wp2_with fail
  exact bodyPost_ret (v := .tuple #[.int .i64 f, .int .i64 t, .int .i64 0]) (by simp [results, Try.results26, go_sem]) rfl ⟨rfl, Rp.below_drewN be1 _⟩
end Go.Proofs.Ytnjcahcbeicblaa
