/- The fault of one edit, walked. -/
import Derived.Test.YtigibeioapkgiaaEdN
import Derived.Test.YtigibeioapkgiaaPlN
namespace Go.Proofs.Ytigibeioapkgiaa
set_option linter.unusedVariables false
set_option linter.unusedSimpArgs false
open Go.RowKit
theorem Ed.bad_3 {s : ByteArray} {t : Int} {e : Ed.E} (h : e.pos < t ∨ e.del < 0 ∨ (s.size : Int) - e.pos < e.del) : Ed.bad s t e = 3 := by
  unfold Ed.bad; rw [if_pos]; simp [Ed.badS]; omega
theorem Ed.bad_2 {s : ByteArray} {t : Int} {e : Ed.E} (h1 : t ≤ e.pos) (h2 : 0 ≤ e.del) (h3 : e.pos + e.del ≤ s.size) (h : Rn.edgeB s e.pos = false ∨ Rn.edgeB s (e.pos + e.del) = false ∨ Rn.wholeL e.ins.data.toList = false) : Ed.bad s t e = 2 := by
  unfold Ed.bad; rw [if_neg (by simp [Ed.badS]; omega), if_pos]
  rcases h with h | h | h <;> simp [Ed.badT, h]
theorem Ed.bad_0 {s : ByteArray} {t : Int} {e : Ed.E} (h1 : t ≤ e.pos) (h2 : 0 ≤ e.del) (h3 : e.pos + e.del ≤ s.size) (h4 : Rn.edgeB s e.pos = true) (h5 : Rn.edgeB s (e.pos + e.del) = true) (h6 : Rn.wholeL e.ins.data.toList = true) : Ed.bad s t e = 0 := by
  unfold Ed.bad; rw [if_neg (by simp [Ed.badS]; omega), if_neg (by simp [Ed.badT, h4, h5, h6])]
set_option maxRecDepth 100000 in
set_option maxHeartbeats 1000000 in
theorem fault_walk (c k n cap : Nat) (o i t : Int) (x : Addr) (e : Ed.E) (p : Option Addr) (s : ByteArray) (w : World) (hc : Ed.Crs w c k o i t (some x) n cap) (hk : k < n) (he : Ed.At w (x.add (k * 3)) e) (hp : Rp.Rep w p s.data.toList) (hs : s.size ≤ 1000000) (ht : 0 ≤ t) (b1 : e.pos ≤ 9223372036854775807) (b2 : e.ins.size ≤ maxLen) :
    Calls Try.prog 28 #[.pointer (some ⟨c, 0, none⟩), .agg #[.pointer p]] w (Rp.IPost w (Ed.bad s t e)) := by
  have HB := Lib.hid b2; clear b2
  have HR := Lib.hid hp
  go_enter Try.func28, Try.ntmps28
  go_wp2_with fail
  have V := Rp.var_new hp
  have hbA := Rp.below_al w (.cells #[.pointer p] 27)
  have hcA := hc.up hbA
  have heA := he.up hbA
  clear hc he hp
  generalize w.alloc (.cells #[.pointer p] 27) = A at *
  refine (edit_walk c k n cap x e _ hcA.c0 hcA.c4 hk heA).mono ?_
  rintro r w1 ⟨rfl, hb1⟩
  go_wp2_with fail
  have hb2 := (Rp.below_al w1 (.cells #[.int .i64 e.pos, .int .i64 e.del, .string e.ins] 46))
  replace V := (V.up hb1).up hb2
  replace hcA := (hcA.up hb1).up hb2
  have E := Ed.at_new w1 e
  have B := Rp.below_up (Rp.below_up hbA hb1) hb2
  clear hbA hb1 hb2 heA
  generalize w1.alloc (.cells #[.int .i64 e.pos, .int .i64 e.del, .string e.ins] 46) = W at *
  generalize w1.heap.size = N at *
  obtain ⟨e0, e1, e2⟩ := E
  simp only [Nat.zero_add] at e1 e2
  have v0 := V.cell
  have VR := Lib.hid V
  have c3 := hcA.c3
  clear V hcA
  by_cases t1 : e.pos < t
  · have d1 : decide (e.pos < t) = true := by simp [t1]
    have q := Lib.hid (Ed.bad_3 (s := s) (.inl t1)).symm
    clear t1
    go_quiet (fail)
    go_wp2
    go_ret
    exact ⟨ret_int q.out, Rp.below_drewN B _⟩
  have d1 : decide (e.pos < t) = false := by simp; omega
  by_cases t2 : e.del < 0
  · have d2 : decide (e.del < 0) = true := by simp [t2]
    have q := Lib.hid (Ed.bad_3 (s := s) (t := t) (.inr (.inl t2))).symm
    clear t1 t2
    go_quiet (fail)
    go_wp2
    go_ret
    exact ⟨ret_int q.out, Rp.below_drewN B _⟩
  have d2 : decide (e.del < 0) = false := by simp; omega
  have hw : IntKind.i64.wrap ((s.size : Int) - e.pos) = s.size - e.pos := IntWalk.i64_in _ (by omega)
  by_cases t3 : (s.size : Int) - e.pos < e.del
  · have d3 : decide ((s.size : Int) - e.pos < e.del) = true := by simp [t3]
    have q := Lib.hid (Ed.bad_3 (s := s) (t := t) (.inr (.inr t3))).symm
    clear t1 t2 t3
    go_region_held3 (fun v => v.cell? ⟨w.heap.size, 0, none⟩ = some (.pointer p) ∧ v.cell? ⟨N, 0, none⟩ = some (.int .i64 e.pos) ∧ v.cell? ⟨N, 1, none⟩ = some (.int .i64 e.del) ∧ v.cell? ⟨N, 2, none⟩ = some (.string e.ins) ∧ v.cell? ⟨c, 3, none⟩ = some (.int .i64 t) ∧ Rp.Rep v p s.data.toList ∧ Below w.heap.size w v)
      (first
        | (refine ⟨?_, ?_, ?_, ?_, ?_, ?_, ?_⟩ <;> with_reducible (first | (refine Rp.cell_dr ?_; assumption) | (refine Rp.Rep.dr ?_; exact VR.out.rep) | (refine Rp.below_dr ?_; assumption)))
        | (go_split_ands; refine ⟨?_, ?_, ?_, ?_, ?_, ?_, ?_⟩ <;> with_reducible (first | (refine Rp.cell_up hb1 ?_; assumption) | (refine Rp.Rep.up hb1 ?_; assumption) | (refine Rp.below_up ?_ hb1; assumption))))
      (first
        | (go_at_call 14; go_split_ands; refine (len_s p s _ (by assumption)).mono ?_; rintro r w2 ⟨rfl, hb1⟩))
    clear e0 e1 e2 v0 c3 B VR d1 d2 d3 hw
    rename_i hH
    clear hb1
    obtain ⟨v0, e0, e1, e2, c3, R, B⟩ := hH
    go_wp2
    go_ret
    exact ⟨ret_int q.out, B⟩
  · have d3 : decide ((s.size : Int) - e.pos < e.del) = false := by simp; omega
    have h1 : t ≤ e.pos := by omega
    have h2 : 0 ≤ e.del := by omega
    have h3 : e.pos + e.del ≤ s.size := by omega
    have h4 : 0 ≤ e.pos := by omega
    have Q2 := Lib.hid (Ed.bad_2 h1 h2 h3)
    have Q0 := Lib.hid (Ed.bad_0 h1 h2 h3)
    clear t1 t2 t3 h1
    go_region_held3 (fun v => v.cell? ⟨w.heap.size, 0, none⟩ = some (.pointer p) ∧ v.cell? ⟨N, 0, none⟩ = some (.int .i64 e.pos) ∧ v.cell? ⟨N, 1, none⟩ = some (.int .i64 e.del) ∧ v.cell? ⟨N, 2, none⟩ = some (.string e.ins) ∧ v.cell? ⟨c, 3, none⟩ = some (.int .i64 t) ∧ Rp.Rep v p s.data.toList ∧ Below w.heap.size w v)
      (first
        | (refine ⟨?_, ?_, ?_, ?_, ?_, ?_, ?_⟩ <;> with_reducible (first | (refine Rp.cell_dr ?_; assumption) | (refine Rp.Rep.dr ?_; exact VR.out.rep) | (refine Rp.below_dr ?_; assumption)))
        | (go_split_ands; refine ⟨?_, ?_, ?_, ?_, ?_, ?_, ?_⟩ <;> with_reducible (first | (refine Rp.cell_up hb1 ?_; assumption) | (refine Rp.Rep.up hb1 ?_; assumption) | (refine Rp.below_up ?_ hb1; assumption))))
      (first
        | (go_at_call 14; go_split_ands; refine (len_s p s _ (by assumption)).mono ?_; rintro r w2 ⟨rfl, hb1⟩))
    clear e0 e1 e2 v0 c3 B VR d1 d2 d3 hw
    rename_i hH
    clear hb1
    obtain ⟨v0, e0, e1, e2, c3, R, B⟩ := hH
    go_wp2_with fail
    have C1 := edgeP_any p s e.pos w2 R hs
    rcases Bool.eq_false_or_eq_true (Rn.edgeB s e.pos) with q1 | q1
    · rw [q1] at C1
      refine C1.mono ?_
      rintro r w3 ⟨rfl, hb3⟩
      replace v0 := Rp.cell_up hb3 v0
      replace e0 := Rp.cell_up hb3 e0
      replace e1 := Rp.cell_up hb3 e1
      replace e2 := Rp.cell_up hb3 e2
      replace R := R.up hb3
      replace B := Rp.below_up B hb3
      clear hb3 c3
      go_wp2_with fail
      have C2 := edgeP_any p s (e.pos + e.del) w3 R hs
      rcases Bool.eq_false_or_eq_true (Rn.edgeB s (e.pos + e.del)) with q2 | q2
      · rw [q2] at C2
        refine C2.mono ?_
        rintro r w4 ⟨rfl, hb4⟩
        replace e2 := Rp.cell_up hb4 e2
        replace B := Rp.below_up B hb4
        clear hb4 v0 e0 e1 R
        go_wp2_with fail
        have C3 := whole_any e.ins w4 HB.out
        rcases Bool.eq_false_or_eq_true (Rn.wholeL e.ins.data.toList) with q3 | q3
        · rw [q3] at C3
          refine C3.mono ?_
          rintro r w5 ⟨rfl, hb5⟩
          go_wp2_with fail
          go_ret
          exact ⟨ret_int (Q0.out q1 q2 q3).symm, Rp.below_up B hb5⟩
        · rw [q3] at C3
          refine C3.mono ?_
          rintro r w5 ⟨rfl, hb5⟩
          go_wp2_with fail
          go_ret
          exact ⟨ret_int (Q2.out (.inr (.inr q3))).symm, Rp.below_up B hb5⟩
      · rw [q2] at C2
        refine C2.mono ?_
        rintro r w4 ⟨rfl, hb4⟩
        go_wp2_with fail
        go_ret
        exact ⟨ret_int (Q2.out (.inr (.inl q2))).symm, Rp.below_up B hb4⟩
    · rw [q1] at C1
      refine C1.mono ?_
      rintro r w3 ⟨rfl, hb3⟩
      go_wp2_with fail
      go_ret
      exact ⟨ret_int (Q2.out (.inl q1)).symm, Rp.below_up B hb3⟩
end Go.Proofs.Ytigibeioapkgiaa
