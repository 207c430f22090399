/- What 'At' answers, walked. -/
import Derived.Test.YtigibeioapkgiaaRpP
namespace Go.Proofs.Ytigibeioapkgiaa
set_option linter.unusedVariables false
set_option linter.unusedSimpArgs false
open Go.RowKit
open Rp (Tr)
/-- a byte, and whether there is one, are answered -/
def Rp.AtPost (w : World) (c : Int) (b : Bool) (e : Ending) (w' : World) : Prop := e = .returned (.tuple #[.int .u8 c, .bool b]) ∧ Below w.heap.size w w'
theorem Rp.below_al2 (w : World) (a b : Obj) : Below w.heap.size w ((w.alloc a).alloc b) := ((Below.refl _ _).alloc (Nat.le_refl _) _).alloc (by simp) _
theorem Rp.way_at {l pre post : List UInt8} {u : ByteArray} {k : Nat} (hk : k < l.length) (W : Rp.Way (fun x _ _ => decide ((k : Int) < x)) l pre u.data.toList post) :
    ∃ j, k = pre.length + j ∧ ∃ h : j < u.size, l.getD k 0 = u[j] := by
  have h1 : pre.length ≤ k := by
    rcases W.ahead with h | h
    · rw [h]; simp
    · simp [Rp.qL] at h; omega
  have h2 : k < pre.length + u.size := by
    rcases W.behind with h | h
    · have := congrArg List.length W.text
      rw [h] at this; simp at this; omega
    · simp [Rp.qL] at h; omega
  refine ⟨k - pre.length, by omega, by omega, ?_⟩
  rw [W.text, List.append_assoc]
  have e : k = pre.length + (k - pre.length) := by omega
  rw [List.getD_eq_getElem?_getD, List.getElem?_append_right h1, List.getElem?_append_left (by simp; omega)]
  simp [show k - pre.length < u.size by omega]
  rfl
set_option maxHeartbeats 1000000 in
theorem at_no (p : Option Addr) (l : List UInt8) (i : Int) (w : World) (hp : Rp.Rep w p l) (h : i < 0 ∨ (l.length : Int) ≤ i) : Calls Try.prog 59 #[.agg #[.pointer p], .int .i64 i] w (Rp.AtPost w 0 false) := by
  by_cases h1 : i < 0
  · have d1 : decide (i < 0) = true := by simp; omega
    clear h
    go_enter Try.func59, Try.ntmps59
    go_wp2_with fail
    go_quiet (fail)
    go_wp2_with fail
    go_ret2
    exact ⟨rfl, Rp.below_drewN (Rp.below_al2 _ _ _) _⟩
  · have d1 : decide (i < 0) = false := by simp; omega
    have d2 : decide ((l.length : Int) ≤ i) = true := by simp; omega
    clear h
    go_enter Try.func59, Try.ntmps59
    go_wp2_with fail
    have hc0 : ((w.alloc (.cells #[.pointer p] 27)).alloc (.cells #[.int .i64 i] 3)).cell? ⟨w.heap.size, 0, none⟩ = some (.pointer p) := by simp [go_sem]
    have hc1 : ((w.alloc (.cells #[.pointer p] 27)).alloc (.cells #[.int .i64 i] 3)).cell? ⟨w.heap.size + 1, 0, none⟩ = some (.int .i64 i) := by simp [go_sem]
    have hbw : Below w.heap.size w ((w.alloc (.cells #[.pointer p] 27)).alloc (.cells #[.int .i64 i] 3)) := Rp.below_al2 _ _ _
    have hpW := hp.up hbw
    generalize (w.alloc (.cells #[.pointer p] 27)).alloc (.cells #[.int .i64 i] 3) = W at *
    go_region_held3 (fun v => v.cell? ⟨w.heap.size, 0, none⟩ = some (.pointer p) ∧ v.cell? ⟨w.heap.size + 1, 0, none⟩ = some (.int .i64 i) ∧ Rp.Rep v p l ∧ Below w.heap.size w v)
      (first
        | (refine ⟨?_, ?_, ?_, ?_⟩ <;> with_reducible (first | (refine Rp.cell_dr ?_; assumption) | (refine Rp.Rep.dr ?_; assumption) | (refine Rp.below_dr ?_; assumption)))
        | (go_split_ands; refine ⟨?_, ?_, ?_, ?_⟩ <;> with_reducible (first | (refine Rp.cell_up hb1 ?_; assumption) | (refine Rp.Rep.up hb1 ?_; assumption) | (refine Rp.below_up ?_ hb1; assumption))))
      (first
        | (go_at_call 14; go_split_ands; refine (len_any p l _ (by assumption)).mono ?_; rintro e w1 ⟨rfl, hb1⟩))
    all_goals
      go_wp2_with fail
      go_ret2
      go_split_ands
      exact ⟨rfl, by assumption⟩
set_option maxHeartbeats 1000000 in
theorem at_yes (p : Option Addr) (l : List UInt8) (k : Nat) (w : World) (hp : Rp.Rep w p l) (hl : l.length ≤ 1000000) (h : k < l.length) : Calls Try.prog 59 #[.agg #[.pointer p], .int .i64 k] w (Rp.AtPost w (l.getD k 0).toNat true) := by
  obtain ⟨a, t, rfl, ha, ga, rfl⟩ : ∃ a t, p = some ⟨a, 0, none⟩ ∧ Rp.IsPart w a t ∧ t.Good ∧ t.toL = l := by
    rcases hp with ⟨rfl, rfl⟩ | h'
    · simp at h
    · exact h'
  obtain ⟨cv, hcv⟩ : ∃ cv : Int, cv = (t.toL.getD k 0).toNat := ⟨_, rfl⟩
  rw [← hcv]
  have HC := Lib.hid hcv; clear hcv
  have hp0 := ha.rep ga
  have d1 : decide ((k : Int) < 0) = false := by simp
  have d2 : decide (t.toL.length ≤ k) = false := by simp; omega
  have hmf : ∀ (fn : Fn) (first cap : Array Value) (w : World), (Instr.makeFunc fn first cap).run Try.prog w = .ok (.func fn first cap) w := fun _ _ _ _ => rfl
  go_enter Try.func59, Try.ntmps59
  go_wp2_with fail
  have hc0 : ((w.alloc (.cells #[.pointer (some ⟨a, 0, none⟩)] 27)).alloc (.cells #[.int .i64 k] 3)).cell? ⟨w.heap.size, 0, none⟩ = some (.pointer (some ⟨a, 0, none⟩)) := by simp [go_sem]
  have hc1 : ((w.alloc (.cells #[.pointer (some ⟨a, 0, none⟩)] 27)).alloc (.cells #[.int .i64 k] 3)).cell? ⟨w.heap.size + 1, 0, none⟩ = some (.int .i64 k) := by simp [go_sem]
  have hbw : Below w.heap.size w ((w.alloc (.cells #[.pointer (some ⟨a, 0, none⟩)] 27)).alloc (.cells #[.int .i64 k] 3)) := Rp.below_al2 _ _ _
  have hpW := hp0.up hbw
  have haW := ha.up hbw
  generalize (w.alloc (.cells #[.pointer (some ⟨a, 0, none⟩)] 27)).alloc (.cells #[.int .i64 k] 3) = W at *
  go_region_held3 (fun v => v.cell? ⟨w.heap.size, 0, none⟩ = some (.pointer (some ⟨a, 0, none⟩)) ∧ v.cell? ⟨w.heap.size + 1, 0, none⟩ = some (.int .i64 k) ∧ Rp.Rep v (some ⟨a, 0, none⟩) t.toL ∧ Rp.IsPart v a t ∧ Below w.heap.size w v)
    (first
      | (refine ⟨?_, ?_, ?_, ?_, ?_⟩ <;> with_reducible (first | (refine Rp.cell_dr ?_; assumption) | (refine Rp.Rep.dr ?_; assumption) | (refine Rp.IsPart.dr ?_; assumption) | (refine Rp.below_dr ?_; assumption)))
      | (go_split_ands; refine ⟨?_, ?_, ?_, ?_, ?_⟩ <;> with_reducible (first | (refine Rp.cell_up hb1 ?_; assumption) | (refine Rp.Rep.up hb1 ?_; assumption) | (refine Rp.IsPart.up hb1 ?_; assumption) | (refine Rp.below_up ?_ hb1; assumption))))
    (first
      | (go_at_call 14; go_split_ands; refine (len_any _ t.toL _ (by assumption)).mono ?_; rintro e w1 ⟨rfl, hb1⟩))
  clear hc0 hc1 hbw hpW haW
  obtain ⟨q1, q2, q3, q4, q5⟩ := ‹w1.cell? ⟨w.heap.size, 0, none⟩ = some (.pointer (some ⟨a, 0, none⟩)) ∧ w1.cell? ⟨w.heap.size + 1, 0, none⟩ = some (.int .i64 k) ∧ Rp.Rep w1 (some ⟨a, 0, none⟩) t.toL ∧ Rp.IsPart w1 a t ∧ Below w.heap.size w w1›
  go_wp2_with fail
  refine (down_any 71 #[.pointer (some ⟨w.heap.size + 1, 0, none⟩)] a t (fun x _ _ => decide ((k : Int) < x)) w1 q4 ga hl entAt (fun x y z v hv => clAt_any _ k x y z v (Rp.cell_up hv q2))).mono ?_
  rintro e w2 ⟨c, pre, u, post, rfl, hc4, hu, hway, hb2⟩
  replace q2 := Rp.cell_up hb2 q2
  have q6 := Rp.below_up q5 hb2
  obtain ⟨j, hj, hju, hjv⟩ := Rp.way_at h hway
  have HV := Lib.hid hjv; clear hjv
  have lt1 : w.heap.size + 1 < w2.heap.size := World.block_lt_of_cell? w2 _ q2
  have lt2 : c < w2.heap.size := World.block_lt_of_cell? w2 _ hc4
  clear q1 q3 q4 q5 hmf hway hb2
  go_wp2_with fail
  have hw1 : IntKind.i64.wrap ((k : Int) - (pre.length : Int)) = (j : Int) := by rw [IntWalk.i64_in _ (by omega)]; omega
  have i1 : (0 : Int) ≤ (j : Int) := by omega
  have i2 : (j : Int) < (u.size : Int) := by omega
  clear hj
  go_quiet (fail)
  go_wp2_with fail
  go_ret2
  exact ⟨by rw [HC.out, HV.out]; rfl, Rp.below_drewN (q6.alloc q6.size _) _⟩
end Go.Proofs.Ytigibeioapkgiaa
