/- The document's 'Check' and 'Apply', walked. -/
import Derived.Test.YtigibeioapkgiaaEdD
import Derived.Test.YtigibeioapkgiaaRnG
namespace Go.Proofs.Ytigibeioapkgiaa
set_option linter.unusedVariables false
set_option linter.unusedSimpArgs false
open Go.RowKit
def Ed.QInv (w : World) (s : ByteArray) (es : List Ed.E) (g : Nat) (v5 v6 v7 : Value) (wr : World) : Prop :=
  ∃ (k : Nat) (t m : Int), g + k = es.length ∧ v5 = .int .i64 t ∧ v6 = .int .i64 m ∧ v7 = .int .i64 k ∧ Below w.heap.size w wr ∧ Ed.chk s (es.drop k) t (m - s.size) = Ed.chk s es 0 0 ∧ 0 ≤ t ∧ t ≤ s.size ∧ (s.size : Int) ≤ m + t ∧ m ≤ s.size + k * 100000
set_option maxRecDepth 100000 in
set_option maxHeartbeats 1000000 in
theorem refCheck_any (s : ByteArray) (a : Option Addr) (es : List Ed.E) (cap : Nat) (w : World) (hs : s.size ≤ 1000000) (hR : Ed.Row w a es) (hW : Ed.Wf es) :
    Calls Try.prog 12 #[.string s, .slice a es.length cap] w (Rp.IPost w (Ed.chk s es 0 0)) := by
  have HR := Lib.hid hR; clear hR
  have HW := Lib.hid hW; clear hW
  go_enter Try.func12, Try.ntmps12
  go_wp2_with fail
  go_loopg [5, 6, 7] es.length (fun g v5 v6 v7 wr => Ed.QInv w s es g v5 v6 v7 wr)
  case atStart => exact ⟨0, 0, s.size, by omega, rfl, rfl, rfl, Below.refl _ _, by simp, by omega, by omega, by omega, by omega⟩
  case round =>
    obtain ⟨k, t, m, hgk, rfl, rfl, rfl, B, hch, t0, ts, mt, mk⟩ := hrel
    have HCH := Lib.hid hch; clear hch
    have hl := HW.out.len
    by_cases hk : k < es.length
    · obtain ⟨x, rfl, hE⟩ := HR.out k hk
      replace hE := hE.up B
      obtain ⟨z1, z2, z3, z4, z5⟩ := HW.out.each es[k] (List.getElem_mem hk)
      have HG := Lib.hid (fun (h : Ed.bad s t es[k] = 0) => (HCH.out.symm.trans (Ed.chk_go hk (g := m - s.size) h)))
      have HS := Lib.hid (fun (h : ¬ Ed.bad s t es[k] = 0) => (HCH.out.symm.trans (Ed.chk_stop hk (g := m - s.size) h)))
      clear HCH
      generalize es[k] = e at *
      obtain ⟨e0, e1, e2⟩ := hE
      have k1 : (0 : Int) ≤ (k : Int) := by omega
      have k2 : (k : Int) < (es.length : Int) := by omega
      have B1 := B.alloc B.size (.cells #[.int .i64 e.pos, .int .i64 e.del, .string e.ins] 46)
      obtain ⟨n0, n1, n2⟩ := Ed.at_new wr e
      simp only [Nat.zero_add] at n1 n2
      by_cases t1 : e.pos < t
      · have d1 : decide (e.pos < t) = true := by simp [t1]
        have q := Lib.hid (Ed.bad_3 (s := s) (t := t) (.inl t1))
        clear t1
        go_wp2_with fail
        go_ret
        exact ⟨ret_int (by rw [HS.out (by rw [q.out]; decide), q.out]), B1⟩
      have d1 : decide (e.pos < t) = false := by simp [t1]
      by_cases t2 : e.del < 0
      · have d2 : decide (e.del < 0) = true := by simp [t2]
        have q := Lib.hid (Ed.bad_3 (s := s) (t := t) (.inr (.inl t2)))
        clear t1 t2
        go_wp2_with fail
        all_goals
          go_ret
          exact ⟨ret_int (by rw [HS.out (by rw [q.out]; decide), q.out]), B1⟩
      have d2 : decide (e.del < 0) = false := by simp [t2]
      by_cases t3 : (s.size : Int) < e.pos
      · have d3 : decide ((s.size : Int) < e.pos) = true := by simp [t3]
        have q := Lib.hid (Ed.bad_3 (s := s) (t := t) (e := e) (.inr (.inr (by omega))))
        clear t1 t2 t3
        go_wp2_with fail
        go_ret
        exact ⟨ret_int (by rw [HS.out (by rw [q.out]; decide), q.out]), B1⟩
      have d3 : decide ((s.size : Int) < e.pos) = false := by simp [t3]
      by_cases t4 : (s.size : Int) - e.pos < e.del
      · have d4 : decide ((s.size : Int) - e.pos < e.del) = true := by simp [t4]
        have q := Lib.hid (Ed.bad_3 (s := s) (t := t) (.inr (.inr t4)))
        clear t4
        go_wp2_with fail
        go_ret
        exact ⟨ret_int (by rw [HS.out (by rw [q.out]; decide), q.out]), B1⟩
      have d4 : decide ((s.size : Int) - e.pos < e.del) = false := by simp [t4]
      have h1 : t ≤ e.pos := by omega
      have h2 : 0 ≤ e.del := by omega
      have h3 : e.pos + e.del ≤ s.size := by omega
      have h4 : 0 ≤ e.pos := by omega
      have Q2 := Lib.hid (Ed.bad_2 h1 h2 h3)
      have Q0 := Lib.hid (Ed.bad_0 h1 h2 h3)
      clear t1 t2 t3 t4
      go_wp2_with fail
      have HN := Lib.hid e0
      clear e0 e1 e2
      generalize wr.alloc (.cells #[.int .i64 e.pos, .int .i64 e.del, .string e.ins] 46) = W at *
      generalize wr.heap.size = N at *
      have C1 := refEdge_any s e.pos W (by unfold maxLen; omega)
      rcases Bool.eq_false_or_eq_true (Rn.edgeB s e.pos) with q1 | q1
      · rw [q1] at C1
        refine C1.mono ?_
        rintro r _ ⟨rfl, rfl⟩
        go_wp2_with fail
        have C2 := refEdge_any s (e.pos + e.del) W (by unfold maxLen; omega)
        rcases Bool.eq_false_or_eq_true (Rn.edgeB s (e.pos + e.del)) with q2 | q2
        · rw [q2] at C2
          refine C2.mono ?_
          rintro r _ ⟨rfl, rfl⟩
          go_wp2_with fail
          have C3 := refWhole_any e.ins W (by unfold maxLen; omega)
          rcases Bool.eq_false_or_eq_true (Rn.wholeL e.ins.data.toList) with q3 | q3
          · rw [q3] at C3
            refine C3.mono ?_
            rintro r w5 ⟨rfl, hb5⟩
            replace n0 := Rp.cell_up hb5 n0
            replace n1 := Rp.cell_up hb5 n1
            replace n2 := Rp.cell_up hb5 n2
            replace B1 := Rp.below_up B1 hb5
            clear hb5 d1 d2 d3 d4
            go_wp2_with fail
            go_roundg (gk - 1)
            case measure => omega
            refine ⟨k + 1, _, _, by omega, rfl, rfl, by go_num, B1, ?_, by omega, by omega, by omega, by omega⟩
            rw [HG.out (Q0.out q1 q2 q3)]; congr 1; omega
          · rw [q3] at C3
            refine C3.mono ?_
            rintro r w5 ⟨rfl, hb5⟩
            go_wp2_with fail
            go_ret
            have q := Q2.out (.inr (.inr q3))
            exact ⟨ret_int (by rw [HS.out (by rw [q]; decide), q]), Rp.below_up B1 hb5⟩
        · rw [q2] at C2
          refine C2.mono ?_
          rintro r _ ⟨rfl, rfl⟩
          go_wp2_with fail
          go_ret
          have q := Q2.out (.inr (.inl q2))
          exact ⟨ret_int (by rw [HS.out (by rw [q]; decide), q]), B1⟩
      · rw [q1] at C1
        refine C1.mono ?_
        rintro r _ ⟨rfl, rfl⟩
        go_wp2_with fail
        go_ret
        have q := Q2.out (.inl q1)
        exact ⟨ret_int (by rw [HS.out (by rw [q]; decide), q]), B1⟩
    · have HE := Lib.hid (Ed.chk_end (s := s) (t := t) (g := m - s.size) hk)
      have hk2 : ¬ (k : Int) < (es.length : Int) := by omega
      by_cases hbig : 4000 < m
      · rw [if_pos (by omega)] at HE
        have d1 : decide (4000 < m) = true := by simp [hbig]
        clear hbig
        go_wp2_with fail
        go_ret
        exact ⟨ret_int (by rw [← HCH.out, HE.out]), B⟩
      · rw [if_neg (by omega)] at HE
        have d1 : decide (4000 < m) = false := by simp [hbig]
        clear hbig
        go_wp2_with fail
        go_ret
        exact ⟨ret_int (by rw [← HCH.out, HE.out]), B⟩
end Go.Proofs.Ytigibeioapkgiaa
