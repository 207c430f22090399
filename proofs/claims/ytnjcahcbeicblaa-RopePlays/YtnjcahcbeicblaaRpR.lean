/- What 'Lines' and 'Signs' answer, walked. -/
import Derived.Test.YtnjcahcbeicblaaRpQ
namespace Go.Proofs.Ytnjcahcbeicblaa
set_option linter.unusedVariables false
set_option linter.unusedSimpArgs false
open Go.RowKit
open Rp (Tr)
theorem Rp.way_take {l pre post : List UInt8} {u : ByteArray} {k : Nat} (hk : k < l.length) (W : Rp.Way (fun x _ _ => decide ((k : Int) < x)) l pre u.data.toList post) :
    ∃ j, k = pre.length + j ∧ j ≤ u.size ∧ l.take k = pre ++ (u.extract 0 j).data.toList := by
  obtain ⟨j, hj, hu, _⟩ := Rp.way_at hk W
  refine ⟨j, hj, by omega, ?_⟩
  rw [W.text, Rp.ext_left, List.append_assoc, List.take_append, List.take_of_length_le (by omega), List.take_append]
  have e1 : k - pre.length = j := by omega
  have e2 : j - u.data.toList.length = 0 := by simp; omega
  rw [e1, e2]; simp
set_option maxHeartbeats 1000000 in
theorem ahead_none (p : Option Addr) (l : List UInt8) (i : Int) (w : World) (h : i ≤ 0) : Calls Try.prog 63 #[.agg #[.pointer p], .int .i64 i] w (Rp.CPost w (l.take i.toNat)) := by
  have e : l.take i.toNat = [] := by have : i.toNat = 0 := by omega
                                     rw [this]; simp
  rw [e]; clear e
  have d1 : decide (i ≤ 0) = true := by simp; omega
  go_enter Try.func63, Try.ntmps63
  go_wp2_with fail
  exact bodyPost_ret (v := .agg #[.int .i64 0, .int .i64 0, .int .i64 0]) (by simp [results, Try.results63, go_sem]) rfl ⟨rfl, Rp.below_al3 _ _ _ _⟩
/-- what ahead's frame lays: the rope, the place, the sum -/
structure Rp.Laid (w : World) (p : Option Addr) (i : Int) (v : World) : Prop where
  rope : v.cell? ⟨w.heap.size, 0, none⟩ = some (.pointer p)
  place : v.cell? ⟨w.heap.size + 1, 0, none⟩ = some (.int .i64 i)
  box : Rp.Box3 v (w.heap.size + 2) 0 0 0
  be : Below w.heap.size w v
theorem Rp.laid_new (w : World) (p : Option Addr) (i : Int) : Rp.Laid w p i (((w.alloc (.cells #[.pointer p] 26)).alloc (.cells #[.int .i64 i] 3)).alloc (.cells #[.int .i64 0, .int .i64 0, .int .i64 0] 79)) :=
  ⟨by simp [go_sem], by simp [go_sem], by constructor <;> simp [go_sem], Rp.below_al3 _ _ _ _⟩
theorem Rp.Laid.up {w v v' : World} {p : Option Addr} {i : Int} (h : Rp.Laid w p i v) (hb : Below v.heap.size v v') : Rp.Laid w p i v' :=
  ⟨Rp.cell_up hb h.rope, Rp.cell_up hb h.place, h.box.up hb, Rp.below_up h.be hb⟩
theorem Rp.Laid.dr {w v : World} {p : Option Addr} {i : Int} (h : Rp.Laid w p i v) : Rp.Laid w p i v.drew := h.up (Below.refl _ _).drew
set_option maxHeartbeats 1000000 in
theorem ahead_all (p : Option Addr) (l : List UInt8) (i : Int) (w : World) (hp : Rp.Rep w p l) (h0 : 0 < i) (h : (l.length : Int) ≤ i) : Calls Try.prog 63 #[.agg #[.pointer p], .int .i64 i] w (Rp.CPost w (l.take i.toNat)) := by
  have e : l.take i.toNat = l := List.take_of_length_le (by omega)
  rw [e]; clear e
  have d1 : decide (i ≤ 0) = false := by simp; omega
  have d2 : decide ((l.length : Int) ≤ i) = true := by simp; omega
  go_enter Try.func63, Try.ntmps63
  go_wp2_with fail
  have hL := Rp.laid_new w p i
  have hpW := hp.up hL.be
  generalize ((w.alloc (.cells #[.pointer p] 26)).alloc (.cells #[.int .i64 i] 3)).alloc (.cells #[.int .i64 0, .int .i64 0, .int .i64 0] 79) = W at *
  have c1 := hL.rope; have c2 := hL.place
  go_region_held3 (fun v => v.cell? ⟨w.heap.size, 0, none⟩ = some (.pointer p) ∧ v.cell? ⟨w.heap.size + 1, 0, none⟩ = some (.int .i64 i) ∧ Rp.Rep v p l ∧ Rp.Laid w p i v)
    (first
      | (refine ⟨?_, ?_, ?_, ?_⟩ <;> with_reducible (first | (refine Rp.cell_dr ?_; assumption) | (refine Rp.Rep.dr ?_; assumption) | (refine Rp.Laid.dr ?_; assumption)))
      | (go_split_ands; refine ⟨?_, ?_, ?_, ?_⟩ <;> with_reducible (first | (refine Rp.cell_up hb1 ?_; assumption) | (refine Rp.Rep.up hb1 ?_; assumption) | (refine Rp.Laid.up ?_ hb1; assumption))))
    (first
      | (go_at_call 16; go_split_ands; refine (len_any _ l _ (by assumption)).mono ?_; rintro e w1 ⟨rfl, hb1⟩))
  clear c1 c2 hL hpW
  obtain ⟨q1, q2, q3, q4⟩ := ‹w1.cell? ⟨w.heap.size, 0, none⟩ = some (.pointer p) ∧ w1.cell? ⟨w.heap.size + 1, 0, none⟩ = some (.int .i64 i) ∧ Rp.Rep w1 p l ∧ Rp.Laid w p i w1›
  go_wp2_with fail
  refine (all_any p l _ q3).mono ?_
  rintro e w2 ⟨rfl, hb2⟩
  have q5 := q4.up hb2
  obtain ⟨x0, x1, x2, f0, f1, f2, _, _⟩ := q5.box
  have be := q5.be
  clear q1 q2 q3 q4
  go_wp2_with fail
  have m2 : w.heap.size ≤ w.heap.size + 2 := by omega
  exact bodyPost_ret (v := .agg #[.int .i64 l.length, .int .i64 (Rp.lns l), .int .i64 (Rn.cnt l)]) (by simp [results, Try.results63, go_sem, x0, x1, x2]) rfl ⟨rfl, ((be.setCell m2 _).setCell m2 _).setCell m2 _⟩
set_option maxHeartbeats 1000000 in
theorem ahead_mid (p : Option Addr) (l : List UInt8) (k : Nat) (w : World) (hp : Rp.Rep w p l) (hl : l.length ≤ 1000000) (h0 : 0 < k) (h : k < l.length) : Calls Try.prog 63 #[.agg #[.pointer p], .int .i64 k] w (Rp.CPost w (l.take k)) := by
  obtain ⟨a, t, rfl, ha, ga, rfl⟩ : ∃ a t, p = some ⟨a, 0, none⟩ ∧ Rp.IsPart w a t ∧ t.Good ∧ t.toL = l := by
    rcases hp with ⟨rfl, rfl⟩ | h'
    · simp at h
    · exact h'
  have d1 : decide ((k : Int) ≤ 0) = false := by simp; omega
  have d2 : decide (t.toL.length ≤ k) = false := by simp; omega
  have hmf : ∀ (fn : Fn) (first cap : Array Value) (w : World), (Instr.makeFunc fn first cap).run Try.prog w = .ok (.func fn first cap) w := fun _ _ _ _ => rfl
  go_enter Try.func63, Try.ntmps63
  go_wp2_with fail
  have hL := Rp.laid_new w (some ⟨a, 0, none⟩) k
  have hpW := (ha.rep ga).up hL.be
  have haW := ha.up hL.be
  generalize ((w.alloc (.cells #[.pointer (some ⟨a, 0, none⟩)] 26)).alloc (.cells #[.int .i64 k] 3)).alloc (.cells #[.int .i64 0, .int .i64 0, .int .i64 0] 79) = W at *
  have c1 := hL.rope; have c2 := hL.place
  go_region_held3 (fun v => v.cell? ⟨w.heap.size, 0, none⟩ = some (.pointer (some ⟨a, 0, none⟩)) ∧ v.cell? ⟨w.heap.size + 1, 0, none⟩ = some (.int .i64 k) ∧ Rp.Rep v (some ⟨a, 0, none⟩) t.toL ∧ Rp.IsPart v a t ∧ Rp.Laid w (some ⟨a, 0, none⟩) k v)
    (first
      | (refine ⟨?_, ?_, ?_, ?_, ?_⟩ <;> with_reducible (first | (refine Rp.cell_dr ?_; assumption) | (refine Rp.Rep.dr ?_; assumption) | (refine Rp.IsPart.dr ?_; assumption) | (refine Rp.Laid.dr ?_; assumption)))
      | (go_split_ands; refine ⟨?_, ?_, ?_, ?_, ?_⟩ <;> with_reducible (first | (refine Rp.cell_up hb1 ?_; assumption) | (refine Rp.Rep.up hb1 ?_; assumption) | (refine Rp.IsPart.up hb1 ?_; assumption) | (refine Rp.Laid.up ?_ hb1; assumption))))
    (first
      | (go_at_call 16; go_split_ands; refine (len_any _ t.toL _ (by assumption)).mono ?_; rintro e w1 ⟨rfl, hb1⟩))
  clear c1 c2 hL hpW haW
  obtain ⟨q1, q2, q3, q4, q5⟩ := ‹w1.cell? ⟨w.heap.size, 0, none⟩ = some (.pointer (some ⟨a, 0, none⟩)) ∧ w1.cell? ⟨w.heap.size + 1, 0, none⟩ = some (.int .i64 k) ∧ Rp.Rep w1 (some ⟨a, 0, none⟩) t.toL ∧ Rp.IsPart w1 a t ∧ Rp.Laid w (some ⟨a, 0, none⟩) k w1›
  go_wp2_with fail
  refine (down_any 77 #[.pointer (some ⟨w.heap.size + 1, 0, none⟩)] a t (fun x _ _ => decide ((k : Int) < x)) w1 q4 ga hl entAhead (fun x y z v hv => clAhead_any _ k x y z v (Rp.cell_up hv q2))).mono ?_
  rintro e w2 ⟨c, pre, u, post, rfl, hc4, hu, hway, hb2⟩
  have q6 := q5.up hb2
  obtain ⟨j, hj, hju, hjv⟩ := Rp.way_take h hway
  have hpl : pre.length ≤ 1000000 := by omega
  have HV := Lib.hid hjv; clear hjv
  have HJ := Lib.hid hj; clear hj
  have lt2 : c < w2.heap.size := World.block_lt_of_cell? w2 _ hc4
  have ng : w.heap.size + 2 ≠ w2.heap.size := by have := World.block_lt_of_cell? w2 _ q6.box.c0; simp at this; omega
  have nc : w.heap.size + 2 ≠ c := by
    rintro rfl
    have := q6.box.n4
    rw [hc4] at this; simp at this
  have nn : w.heap.size + 2 ≠ w.heap.size + 1 := by omega
  have hLx := q6.up (Rp.below_al w2 (.cells #[.int .i64 pre.length, .int .i64 (Rp.lns pre), .int .i64 (Rn.cnt pre)] 79))
  have hg : Rp.Box3 (w2.alloc (.cells #[.int .i64 pre.length, .int .i64 (Rp.lns pre), .int .i64 (Rn.cnt pre)] 79)) w2.heap.size pre.length (Rp.lns pre) (Rn.cnt pre) := by constructor <;> simp [go_sem]
  have hc4x := Rp.cell_al (o := .cells #[.int .i64 pre.length, .int .i64 (Rp.lns pre), .int .i64 (Rn.cnt pre)] 79) hc4
  clear q1 q2 q3 q4 q5 hmf hway hb2 hc4
  go_wp2_with fail
  clear q6
  generalize w2.alloc (.cells #[.int .i64 pre.length, .int .i64 (Rp.lns pre), .int .i64 (Rn.cnt pre)] 79) = V at *
  generalize w2.heap.size = gg at *
  obtain ⟨g0, g1, g2, _, _, _, _, _⟩ := hg
  have pl := hLx.place
  have hw1 : IntKind.i64.wrap ((k : Int) - (pre.length : Int)) = (j : Int) := by have := HJ.out; rw [IntWalk.i64_in _ (by omega)]; omega
  have i1 : (0 : Int) ≤ (j : Int) := by omega
  have i2 : (j : Int) ≤ (u.size : Int) := by omega
  have k1 := Rp.lns_le pre; have k3 := Rn.cnt_bd pre
  have k2 := Rp.lns_le (u.extract 0 j).data.toList; have k4 := Rn.cnt_bd (u.extract 0 j).data.toList
  have k5 : (u.extract 0 j).size ≤ 64 := by simp; omega
  rw [Rn.len_data0] at k2 k4
  have eE : (u.extract 0 j).size ≤ maxLen := by unfold maxLen; omega
  have m2 : w.heap.size ≤ w.heap.size + 2 := by omega
  have hfin : ∀ v, Rp.Laid w (some ⟨a, 0, none⟩) k v → Rp.CPost w (t.toL.take k) (.returned (.agg #[.int .i64 ((pre.length : Int) + (u.extract 0 j).size), .int .i64 ((Rp.lns pre : Int) + Rp.lns (u.extract 0 j).data.toList), .int .i64 (Rn.cnt pre + Rn.cnt (u.extract 0 j).data.toList)])) (((v.setCell ⟨w.heap.size + 2, 0, none⟩ (.int .i64 ((pre.length : Int) + (u.extract 0 j).size))).setCell ⟨w.heap.size + 2, 1, none⟩ (.int .i64 ((Rp.lns pre : Int) + Rp.lns (u.extract 0 j).data.toList))).setCell ⟨w.heap.size + 2, 2, none⟩ (.int .i64 (Rn.cnt pre + Rn.cnt (u.extract 0 j).data.toList))) := by
    intro v hv
    refine ⟨?_, ((hv.be.setCell m2 _).setCell m2 _).setCell m2 _⟩
    rw [HV.out, List.length_append, Rp.lns_append, Rp.cnt_append, Rn.len_data0]
    simp
  have HF := Lib.hid hfin; clear hfin
  generalize hX : u.extract 0 j = X at *
  have hsl : ∀ v : World, (Instr.slice 9 (.string u) none (some (.int .i64 j)) none).run Try.prog v = .ok (.string X) v := by
    intro v; rw [← hX]; go_simp
  have lb : w.heap.size + 2 < V.heap.size := World.block_lt_of_cell? V _ hLx.box.c0
  go_region_held3 (fun v => v.cell? ⟨gg, 0, none⟩ = some (.int .i64 pre.length) ∧ v.cell? ⟨gg, 1, none⟩ = some (.int .i64 (Rp.lns pre)) ∧ v.cell? ⟨gg, 2, none⟩ = some (.int .i64 (Rn.cnt pre)) ∧ v.cell? ⟨c, 4, none⟩ = some (.string u) ∧ v.cell? ⟨w.heap.size + 1, 0, none⟩ = some (.int .i64 k))
    (first
      | (refine ⟨?_, ?_, ?_, ?_, ?_⟩ <;> with_reducible (first | (refine Rp.cell_dr ?_; assumption)))
      | (go_split_ands; refine ⟨?_, ?_, ?_, ?_, ?_⟩ <;> with_reducible (first | (refine Rp.cell_up hb2 ?_; assumption)))
      | (go_split_ands; refine ⟨?_, ?_, ?_, ?_, ?_⟩ <;> with_reducible (first | (refine Rp.cell_up hb1 ?_; assumption)))
      | (go_split_ands; refine ⟨?_, ?_, ?_, ?_, ?_⟩ <;> with_reducible (refine Rp.cell_set (Rp.cell_set (Rp.cell_set ?_ ?_) ?_) ?_ <;> assumption)))
    (first
      | (go_at_call 78; refine (countOf_any X _ eE).mono ?_; rintro e w3 ⟨rfl, hb1⟩; have L3 := hLx.dr.up hb1)
      | (go_at_call 75; refine (plus_any _ _ _ _ _ _ _ (by omega) (by omega) (by omega) (by omega) (by omega) (by omega)).mono ?_; rintro e w4 ⟨rfl, hb2⟩; have L4 := L3.up hb2; obtain ⟨x0, x1, x2, xf0, xf1, xf2, _, _⟩ := L4.box))
  all_goals
    go_wp2_with fail
    exact bodyPost_ret (v := .agg #[.int .i64 ((pre.length : Int) + X.size), .int .i64 ((Rp.lns pre : Int) + Rp.lns X.data.toList), .int .i64 (Rn.cnt pre + Rn.cnt X.data.toList)]) (by simp [results, Try.results63, go_sem, x0, x1, x2]) rfl (HF.out w4 L4)
theorem ahead_any (p : Option Addr) (l : List UInt8) (i : Int) (w : World) (hp : Rp.Rep w p l) (hl : l.length ≤ 1000000) : Calls Try.prog 63 #[.agg #[.pointer p], .int .i64 i] w (Rp.CPost w (l.take i.toNat)) := by
  by_cases h1 : i ≤ 0
  · exact ahead_none p l i w h1
  by_cases h2 : (l.length : Int) ≤ i
  · exact ahead_all p l i w hp (by omega) h2
  · obtain ⟨k, rfl⟩ := Int.eq_ofNat_of_zero_le (show 0 ≤ i by omega)
    exact ahead_mid p l k w hp hl (by omega) (by omega)
set_option maxHeartbeats 400000 in
theorem lines_any (p : Option Addr) (l : List UInt8) (i : Int) (w : World) (hp : Rp.Rep w p l) (hl : l.length ≤ 1000000) : Calls Try.prog 37 #[.agg #[.pointer p], .int .i64 i] w (Rp.IPost w (Rp.lns (l.take i.toNat))) := by
  have hf := Rp.field_1
  go_enter Try.func37, Try.ntmps37
  go_wp2_with fail
  refine (ahead_any p l i _ (hp.al _) hl).mono ?_
  rintro e w1 ⟨rfl, hb1⟩
  go_wp2_with fail
  go_ret
  exact ⟨rfl, Rp.below_up (Rp.below_al _ _) hb1⟩
set_option maxHeartbeats 400000 in
theorem signs_any (p : Option Addr) (l : List UInt8) (i : Int) (w : World) (hp : Rp.Rep w p l) (hl : l.length ≤ 1000000) : Calls Try.prog 48 #[.agg #[.pointer p], .int .i64 i] w (Rp.IPost w (Rn.cnt (l.take i.toNat))) := by
  have hf := Rp.field_2
  go_enter Try.func48, Try.ntmps48
  go_wp2_with fail
  refine (ahead_any p l i _ (hp.al _) hl).mono ?_
  rintro e w1 ⟨rfl, hb1⟩
  go_wp2_with fail
  go_ret
  exact ⟨rfl, Rp.below_up (Rp.below_al _ _) hb1⟩
end Go.Proofs.Ytnjcahcbeicblaa
