/- What the small functions of layer 3 answer, walked. -/
import Derived.Test.YtnjcahcbeicblaaPlM
namespace Go.Proofs.Ytnjcahcbeicblaa
set_option linter.unusedVariables false
set_option linter.unusedSimpArgs false
open Go.RowKit
open Rp (Tr)
theorem line_here (p : Option Addr) (l : List UInt8) (k : Nat) (w : World) (hp : Rp.Rep w p l) (hl : l.length ≤ 1000000) (h : k ≤ Rp.lns l) : Calls Try.prog 36 #[.agg #[.pointer p], .int .i64 k] w (Rp.LinePost w l k) := by
  rcases Nat.eq_zero_or_pos k with rfl | h0
  · exact (line_zero p w).mono fun e w' he => ⟨0, Pl.behind_zero l, he⟩
  · exact line_yes p l k w hp hl h0 h
theorem line_succ (p : Option Addr) (l : List UInt8) (k : Nat) (w : World) (hp : Rp.Rep w p l) (hl : l.length ≤ 1000000) (h : k + 1 ≤ Rp.lns l) : Calls Try.prog 36 #[.agg #[.pointer p], .int .i64 ((k : Int) + 1)] w (Rp.LinePost w l (k + 1)) :=
  line_here p l (k + 1) w hp hl h
/-- a row's three cells, that may be written -/
structure Pl.Box (v : World) (c : Nat) (x y : Int) (p : Option Addr) : Prop where
  c0 : v.cell? ⟨c, 0, none⟩ = some (.int .i64 x)
  c1 : v.cell? ⟨c, 1, none⟩ = some (.int .i64 y)
  c2 : v.cell? ⟨c, 2, none⟩ = some (.pointer p)
  f0 : v.frozen? ⟨c, 0, none⟩ = false
  f1 : v.frozen? ⟨c, 1, none⟩ = false
  f2 : v.frozen? ⟨c, 2, none⟩ = false
theorem Pl.Box.up {v v' : World} (hb : Below v.heap.size v v') {c : Nat} {x y : Int} {p : Option Addr} (h : Pl.Box v c x y p) : Pl.Box v' c x y p :=
  ⟨Rp.cell_up hb h.c0, Rp.cell_up hb h.c1, Rp.cell_up hb h.c2, Rp.frz_up hb h.c0 h.f0, Rp.frz_up hb h.c1 h.f1, Rp.frz_up hb h.c2 h.f2⟩
theorem Pl.box_new {v : World} (x y : Int) (p : Option Addr) (t : TypeId) : Pl.Box (v.alloc (.cells #[.int .i64 x, .int .i64 y, .pointer p] t)) v.heap.size x y p := by constructor <;> simp [go_sem]
/-- what rowOf's frame lays: the rope, the row -/
structure Pl.Fr (w : World) (p : Option Addr) (v : World) : Prop where
  rope : v.cell? ⟨w.heap.size, 0, none⟩ = some (.pointer p)
  box : Pl.Box v (w.heap.size + 1) 0 0 none
  be : Below w.heap.size w v
theorem Pl.fr_new (w : World) (p : Option Addr) : Pl.Fr w p ((w.alloc (.cells #[.pointer p] 26)).alloc (.cells #[.int .i64 0, .int .i64 0, .pointer none] 87)) :=
  ⟨by simp [go_sem], by constructor <;> simp [go_sem], Rp.below_al2 _ _ _⟩
theorem Pl.Fr.up {w v v' : World} {p : Option Addr} (h : Pl.Fr w p v) (hb : Below v.heap.size v v') : Pl.Fr w p v' := ⟨Rp.cell_up hb h.rope, h.box.up hb, Rp.below_up h.be hb⟩
/-- a line of the rope p is answered -/
def Pl.RowPost (w : World) (p : Option Addr) (l : List UInt8) (k : Nat) (e : Ending) (w' : World) : Prop :=
  ∃ f t : Nat, Pl.Row l k f t ∧ e = .returned (.tuple #[.agg #[.int .i64 f, .int .i64 t, .pointer p], .bool true]) ∧ Below w.heap.size w w'
def Pl.NoRow (w : World) (e : Ending) (w' : World) : Prop :=
  e = .returned (.tuple #[.agg #[.int .i64 0, .int .i64 0, .pointer none], .bool false]) ∧ Below w.heap.size w w'
set_option maxHeartbeats 1000000 in
theorem rowOf_no (p : Option Addr) (l : List UInt8) (i : Int) (w : World) (hp : Rp.Rep w p l) (h : i < 0 ∨ (Rp.lns l : Int) < i) : Calls Try.prog 52 #[.agg #[.pointer p], .int .i64 i] w (Pl.NoRow w) := by
  go_enter Try.func52, Try.ntmps52
  go_wp2_with fail
  have F := Pl.fr_new w p
  have hpW := hp.up F.be
  generalize (w.alloc (.cells #[.pointer p] 26)).alloc (.cells #[.int .i64 0, .int .i64 0, .pointer none] 87) = W at *
  refine (line_no p l i _ hpW h).mono ?_
  rintro e w1 ⟨rfl, hb1⟩
  replace F := F.up hb1
  obtain ⟨x0, ⟨c0, c1, c2, f0, f1, f2⟩, be⟩ := F
  clear hpW hb1
  go_wp2_with fail
  have m2 : w.heap.size ≤ w.heap.size + 1 := by omega
  exact bodyPost_ret (v := .tuple #[.agg #[.int .i64 0, .int .i64 0, .pointer none], .bool false]) (by simp [results, Try.results52, go_sem, c0, c1, c2]) rfl ⟨rfl, ((be.setCell m2 _).setCell m2 _).setCell m2 _⟩
set_option maxHeartbeats 1000000 in
theorem rowOf_yes (p : Option Addr) (l : List UInt8) (k : Nat) (w : World) (hp : Rp.Rep w p l) (hl : l.length ≤ 1000000) (hk : k ≤ Rp.lns l) : Calls Try.prog 52 #[.agg #[.pointer p], .int .i64 k] w (Pl.RowPost w p l k) := by
  have hkb : k ≤ 1000000 := by have := Rp.lns_le l; omega
  go_enter Try.func52, Try.ntmps52
  go_wp2_with fail
  have F := Pl.fr_new w p
  have hpW := hp.up F.be
  generalize (w.alloc (.cells #[.pointer p] 26)).alloc (.cells #[.int .i64 0, .int .i64 0, .pointer none] 87) = W at *
  refine (line_here p l k _ hpW hl hk).mono ?_
  rintro e w1 ⟨f, hbf, rfl, hb1⟩
  replace F := F.up hb1
  replace hpW := hpW.up hb1
  have x0 := F.rope
  have HF := Lib.hid hbf; clear hbf
  go_wp2_with fail
  refine (len_any p l _ hpW).mono ?_
  rintro e w2 ⟨rfl, hb2⟩
  replace F := F.up hb2
  replace hpW := hpW.up hb2
  replace x0 := F.rope
  clear hb1 hb2
  go_wp2_with fail
  have m2 : w.heap.size ≤ w.heap.size + 1 := by omega
  by_cases hm : k + 1 ≤ Rp.lns l
  · refine (line_succ p l k _ hpW hl hm).mono ?_
    rintro e w3 ⟨q, hbq, rfl, hb3⟩
    have hq := Pl.row_next HF.out hbq
    have hq0 := hq.1
    have hqb := hbq.1
    have HQ := Lib.hid hq.2; clear hq hbq
    replace F := F.up hb3
    clear x0 hpW hb3
    obtain ⟨x0, ⟨c0, c1, c2, f0, f1, f2⟩, be⟩ := F
    go_wp2_with fail
    refine bodyPost_ret (v := .tuple #[.agg #[.int .i64 f, .int .i64 ((q : Int) - 1), .pointer p], .bool true]) (by simp [results, Try.results52, go_sem, c0, c1, c2]) rfl ⟨f, q - 1, HQ.out, ?_, ((be.setCell m2 _).setCell m2 _).setCell m2 _⟩
    rw [show ((q - 1 : Nat) : Int) = (q : Int) - 1 by omega]
  · refine (line_no p l ((k : Int) + 1) _ hpW (.inr (by omega))).mono ?_
    rintro e w3 ⟨rfl, hb3⟩
    have HQ := Lib.hid (Pl.row_last HF.out (by omega))
    replace F := F.up hb3
    clear x0 hpW hb3
    obtain ⟨x0, ⟨c0, c1, c2, f0, f1, f2⟩, be⟩ := F
    go_wp2_with fail
    exact bodyPost_ret (v := .tuple #[.agg #[.int .i64 f, .int .i64 l.length, .pointer p], .bool true]) (by simp [results, Try.results52, go_sem, c0, c1, c2]) rfl ⟨f, l.length, HQ.out, rfl, ((be.setCell m2 _).setCell m2 _).setCell m2 _⟩
set_option maxHeartbeats 1000000 in
theorem column_any (p : Option Addr) (l : List UInt8) (f t : Nat) (i : Int) (w : World) (hp : Rp.Rep w p l) (hl : l.length ≤ 1000000) : Calls Try.prog 53 #[.agg #[.int .i64 f, .int .i64 t, .pointer p], .int .i64 i] w (Rp.IPost w (Rn.cnt (l.take i.toNat) - Rn.cnt (l.take f))) := by
  have b1 := Pl.cnt_le l i.toNat
  have b2 := Pl.cnt_le l f
  have eF : l.take (f : Int).toNat = l.take f := by simp
  have EF := Lib.hid eF; clear eF
  have hw : IntKind.i64.wrap (Rn.cnt (l.take i.toNat) - Rn.cnt (l.take f)) = Rn.cnt (l.take i.toNat) - Rn.cnt (l.take f) := IntWalk.i64_in _ (by omega)
  clear b1 b2
  go_enter Try.func53, Try.ntmps53
  go_wp2_with fail
  have B := Pl.box_new (v := w) f t p 87
  have hbw := Rp.below_al w (.cells #[.int .i64 f, .int .i64 t, .pointer p] 87)
  have hpW := hp.up hbw
  obtain ⟨c0, c1, c2, _, _, _⟩ := B
  generalize w.alloc (.cells #[.int .i64 f, .int .i64 t, .pointer p] 87) = W at *
  clear c1
  go_region_held3 (fun v => v.cell? ⟨w.heap.size, 0, none⟩ = some (.int .i64 f) ∧ v.cell? ⟨w.heap.size, 2, none⟩ = some (.pointer p) ∧ Rp.Rep v p l ∧ Below w.heap.size w v)
    (first
      | (refine ⟨?_, ?_, ?_, ?_⟩ <;> with_reducible (first | (refine Rp.cell_dr ?_; assumption) | (refine Rp.Rep.dr ?_; assumption) | (refine Rp.below_dr ?_; assumption)))
      | (go_split_ands; refine ⟨?_, ?_, ?_, ?_⟩ <;> with_reducible (first | (refine Rp.cell_up hb2 ?_; assumption) | (refine Rp.Rep.up hb2 ?_; assumption) | (refine Rp.below_up ?_ hb2; assumption)))
      | (go_split_ands; refine ⟨?_, ?_, ?_, ?_⟩ <;> with_reducible (first | (refine Rp.cell_up hb1 ?_; assumption) | (refine Rp.Rep.up hb1 ?_; assumption) | (refine Rp.below_up ?_ hb1; assumption))))
    (first
      | (go_at_call_of 48 (Value.int .i64 i); go_split_ands; refine (signs_any p l i _ (by assumption) hl).mono ?_; rintro e w1 ⟨rfl, hb1⟩)
      | (go_at_call 48; go_split_ands; refine (signs_any p l f _ (by assumption) hl).mono ?_; rw [EF.out]; rintro e w2 ⟨rfl, hb2⟩))
  all_goals
    go_wp2_with fail
    go_ret
    go_split_ands
    exact ⟨rfl, by assumption⟩
set_option maxHeartbeats 1000000 in
theorem width_any (p : Option Addr) (l : List UInt8) (f t : Nat) (w : World) (hp : Rp.Rep w p l) (hl : l.length ≤ 1000000) : Calls Try.prog 56 #[.agg #[.int .i64 f, .int .i64 t, .pointer p]] w (Rp.IPost w (Rn.cnt (l.take t) - Rn.cnt (l.take f))) := by
  have eF : l.take (t : Int).toNat = l.take t := by simp
  have EF := Lib.hid eF; clear eF
  go_enter Try.func56, Try.ntmps56
  go_wp2_with fail
  have hbw := Rp.below_al w (.cells #[.int .i64 f, .int .i64 t, .pointer p] 87)
  refine (column_any p l f t t _ (hp.up hbw) hl).mono ?_
  rw [EF.out]
  rintro e w1 ⟨rfl, hb1⟩
  have be := Rp.below_up hbw hb1
  go_wp2_with fail
  go_ret
  exact ⟨rfl, be⟩
set_option maxHeartbeats 1000000 in
theorem edgeR_any (p : Option Addr) (s : ByteArray) (f t : Nat) (n : Int) (w : World) (hp : Rp.Rep w p s.data.toList) (hs : s.size ≤ 1000000) (hft : f ≤ t) (ht : t ≤ s.size) (hn : n ≤ 2 ^ 63 - 1) : Calls Try.prog 58 #[.agg #[.int .i64 f, .int .i64 t, .pointer p], .int .i64 n] w (Rp.IPost w ((f : Int) + Rn.cut (s.extract f t) n)) := by
  have hc := Rn.cut_le (s.extract f t) n
  have hz := Pl.ext_size s f t hft ht
  have hw : IntKind.i64.wrap ((f : Int) + Rn.cut (s.extract f t) n) = (f : Int) + Rn.cut (s.extract f t) n := IntWalk.i64_in _ (by omega)
  have HZ := Lib.hid hz; clear hz hc
  go_enter Try.func58, Try.ntmps58
  go_wp2_with fail
  have B := Pl.box_new (v := w) f t p 87
  have hbw := Rp.below_al w (.cells #[.int .i64 f, .int .i64 t, .pointer p] 87)
  have hpW := hp.up hbw
  generalize w.alloc (.cells #[.int .i64 f, .int .i64 t, .pointer p] 87) = W at *
  refine (slice_s p s f t _ hpW hs hft ht).mono ?_
  rintro e w1 ⟨rfl, hb1⟩
  replace B := B.up hb1
  have be := Rp.below_up hbw hb1
  obtain ⟨c0, _, _, _, _, _⟩ := B
  go_wp2_with fail
  go_quiet ((go_at_call 74; exact quietly (cut_any (s.extract f t) n _ (by rw [HZ.out]; unfold maxLen; omega) hn)))
  go_wp2_with fail
  go_ret
  exact ⟨rfl, Rp.below_drewN be _⟩
end Go.Proofs.Ytnjcahcbeicblaa
