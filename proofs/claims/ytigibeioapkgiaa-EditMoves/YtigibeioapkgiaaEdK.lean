/- The document's 'Move' and 'Same', walked. -/
import Derived.Test.YtigibeioapkgiaaEdH
import Derived.Test.YtigibeioapkgiaaEdJ
namespace Go.Proofs.Ytigibeioapkgiaa
set_option linter.unusedVariables false
set_option linter.unusedSimpArgs false
open Go.RowKit
/-- the last one of the first k edits that begins at x or ahead of it -/
def Ed.Last (es : List Ed.E) (x : Int) (k : Nat) (q : Int) : Prop :=
  (q = -1 ∧ ∀ j (h : j < es.length), j < k → x < es[j].pos) ∨ ∃ (m : Nat) (h : m < es.length), q = m ∧ m < k ∧ es[m].pos ≤ x ∧ ∀ j (h : j < es.length), m < j → j < k → x < es[j].pos
def Ed.LInv (w : World) (es : List Ed.E) (x : Int) (g : Nat) (v7 v9 : Value) (wr : World) : Prop :=
  ∃ (k : Nat) (q : Int), g + k = es.length ∧ v7 = .int .i64 q ∧ v9 = .int .i64 k ∧ Ed.Last es x k q ∧ Below w.heap.size w wr
def Ed.SInv (w : World) (es : List Ed.E) (m : Nat) (g : Nat) (v8 v10 : Value) (wr : World) : Prop :=
  ∃ (k : Nat), g + k = m ∧ v8 = .int .i64 (Ed.grows (es.take k)) ∧ v10 = .int .i64 k ∧ Below w.heap.size w wr
theorem Ed.grows_bd {n : Nat} {es : List Ed.E} (hM : Ed.May n 0 es) (hW : Ed.Wf es) (k : Nat) (hk : k ≤ es.length) : -(n : Int) ≤ Ed.grows (es.take k) ∧ Ed.grows (es.take k) ≤ k * 100000 := by
  constructor
  · by_cases h : k < es.length
    · have h1 := Ed.May.take k h hM (by omega)
      obtain ⟨a, b, c, _⟩ := Ed.May.drop k h hM
      have := Ed.grows_low h1 (by omega)
      omega
    · rw [List.take_of_length_le (by omega)]
      have := Ed.grows_low hM (by omega)
      omega
  · have := Ed.grows_high (es := es.take k) (fun e he => (hW.each e (List.mem_of_mem_take he)).1) (fun e he => hM.dels e (List.mem_of_mem_take he))
    rw [List.length_take] at this; omega
set_option maxRecDepth 100000 in
set_option maxHeartbeats 1000000 in
theorem refMove_any (a : Option Addr) (es : List Ed.E) (cap n : Nat) (x : Int) (after : Bool) (w : World) (hR : Ed.Row w a es) (hW : Ed.Wf es) (hM : Ed.May n 0 es) (hn : n ≤ 1000000) (hx : x ≤ 1000000) :
    Calls Try.prog 22 #[.slice a es.length cap, .int .i64 x, .bool after] w (Rp.IPost w (Ed.mv x after es 0 x)) := by
  have HR := Lib.hid hR; clear hR
  have HW := Lib.hid hW; clear hW
  have HM := Lib.hid hM; clear hM
  have hl := HW.out.len
  go_enter Try.func22, Try.ntmps22
  go_wp2_with fail
  go_loopg [7, 9] es.length (fun g v7 v9 wr => Ed.LInv w es x g v7 v9 wr)
  case atStart => exact ⟨0, -1, by omega, rfl, rfl, .inl ⟨rfl, fun j h h2 => by omega⟩, Below.refl _ _⟩
  case round =>
    obtain ⟨k, q, hgk, rfl, rfl, L, B⟩ := hrel
    by_cases hk : k < es.length
    · obtain ⟨ad, rfl, hE⟩ := HR.out k hk
      obtain ⟨e0, e1, e2⟩ := hE.up B
      have k1 : (0 : Int) ≤ (k : Int) := by omega
      have k2 : (k : Int) < (es.length : Int) := by omega
      have HL := Lib.hid L; clear L
      by_cases hp : es[k].pos ≤ x
      · have d1 : decide (es[k].pos ≤ x) = true := by simp [hp]
        have HP := Lib.hid hp; clear hp
        go_wp2_with fail
        go_roundg (gk - 1)
        case measure => omega
        refine ⟨k + 1, k, by omega, rfl, by go_num, .inr ⟨k, hk, rfl, by omega, HP.out, fun j h h1 h2 => by omega⟩, B⟩
      · have d1 : decide (es[k].pos ≤ x) = false := by simp [hp]
        have HP := Lib.hid hp; clear hp
        go_wp2_with fail
        go_roundg (gk - 1)
        case measure => omega
        refine ⟨k + 1, q, by omega, rfl, by go_num, ?_, B⟩
        have hp := HP.out
        rcases HL.out with ⟨rfl, h⟩ | ⟨m, hm, rfl, h1, h2, h3⟩
        · refine .inl ⟨rfl, fun j hj hjk => ?_⟩
          by_cases hj2 : j = k
          · subst hj2; omega
          · exact h j hj (by omega)
        · refine .inr ⟨m, hm, rfl, by omega, h2, fun j hj hmj hjk => ?_⟩
          by_cases hj2 : j = k
          · subst hj2; omega
          · exact h3 j hj hmj (by omega)
    · have k2 : ¬ (k : Int) < (es.length : Int) := by omega
      rcases L with ⟨rfl, h⟩ | ⟨m, hm, rfl, h1, h2, h3⟩
      · have q : x = Ed.mv x after es 0 x := by
          rw [Ed.mv_none]
          intro e he
          obtain ⟨j, hj, rfl⟩ := List.mem_iff_getElem.1 he
          exact h j hj (by omega)
        have Q := Lib.hid q
        clear q h
        go_wp2_with fail
        go_ret
        exact ⟨ret_int Q.out, B⟩
      · have q : Ed.mv x after es 0 x = Ed.grows (es.take m) + Ed.mv1 es[m] x after := Ed.mv_is hm h2 (fun e he => by
          obtain ⟨j, hj, rfl⟩ := List.mem_iff_getElem.1 he
          rw [List.getElem_drop]
          exact h3 _ _ (by omega) (by rw [List.length_drop] at hj; omega)) x
        have Q := Lib.hid q
        clear q h3
        have m0 : ¬ (m : Int) < 0 := by omega
        obtain ⟨y1, y2, y3, _⟩ := Ed.May.drop m hm HM.out
        obtain ⟨z1, z2, z3, z4, z5⟩ := HW.out.each es[m] (List.getElem_mem hm)
        go_wp2_with fail
        have gb := fun k hk => Ed.grows_bd HM.out HW.out k hk
        have GB := Lib.hid gb; clear gb
        go_loopg [8, 10] m (fun g v8 v10 wr => Ed.SInv w es m g v8 v10 wr)
        case atStart => exact ⟨0, by omega, rfl, rfl, B⟩
        case round =>
          clear B
          obtain ⟨j, hgj, rfl, rfl, B⟩ := hrel
          obtain ⟨g1, g2⟩ := GB.out j (by omega)
          by_cases hj : j < m
          · obtain ⟨ad, rfl, hE⟩ := HR.out j (by omega)
            obtain ⟨e0, e1, e2⟩ := hE.up B
            have HT := Lib.hid (Ed.grows_take (show j < es.length by omega))
            obtain ⟨x1, x2, x3, x4, x5⟩ := HW.out.each es[j] (List.getElem_mem (by omega))
            obtain ⟨_, u2, u3, _⟩ := Ed.May.drop j (by omega) HM.out
            obtain ⟨u1, _, _, _⟩ := Ed.May.drop j (by omega) HM.out
            generalize Ed.grows (es.take j) = gr at *
            have w1 : IntKind.i64.wrap (gr + (es[j].ins.size : Int)) = gr + es[j].ins.size := IntWalk.i64_in _ (by omega)
            have w2 : IntKind.i64.wrap (gr + (es[j].ins.size : Int) - es[j].del) = gr + es[j].ins.size - es[j].del := IntWalk.i64_in _ (by omega)
            have k1 : (0 : Int) ≤ (j : Int) := by omega
            have k2 : (j : Int) < (es.length : Int) := by omega
            have k3 : (j : Int) < (m : Int) := by omega
            go_wp2_with fail
            go_quiet (fail)
            go_wp2_with fail
            go_roundg (gk - 1)
            case measure => omega
            exact ⟨j + 1, by omega, by rw [HT.out], by go_num, Rp.below_drewN B _⟩
          · obtain rfl : j = m := by omega
            obtain ⟨ad, rfl, hE⟩ := HR.out j hm
            obtain ⟨e0, e1, e2⟩ := hE.up B
            have k1 : (0 : Int) ≤ (j : Int) := by omega
            have k2 : (j : Int) < (es.length : Int) := by omega
            have k3 : ¬ (j : Int) < (j : Int) := by omega
            have B1 := B.alloc B.size (.cells #[.int .i64 es[j].pos, .int .i64 es[j].del, .string es[j].ins] 46)
            obtain ⟨n0, n1, n2⟩ := Ed.at_new wr es[j]
            simp only [Nat.zero_add] at n1 n2
            generalize Ed.grows (es.take j) = gr at *
            generalize es[j] = e at *
            by_cases t1 : e.pos + e.del < x
            · have d1 : decide (e.pos + e.del < x) = true := by simp [t1]
              have X := Lib.hid (show Ed.mv1 e x after = x + e.ins.size - e.del by unfold Ed.mv1; rw [if_pos (.inl (by omega))])
              clear t1
              go_wp2_with fail
              go_ret
              exact ⟨ret_int (by have := Q.out; have := X.out; omega), B1⟩
            have d1 : decide (e.pos + e.del < x) = false := by simp [t1]
            by_cases t2 : e.del = 0
            · have d2 : (e.del == 0) = true := by simp [t2]
              cases after with
              | true =>
                have X := Lib.hid (show Ed.mv1 e x true = e.pos + e.ins.size by unfold Ed.mv1; rw [if_neg (by omega), if_neg (by omega), if_pos rfl])
                clear t1 t2
                go_wp2_with fail
                go_ret
                exact ⟨ret_int (by have := Q.out; have := X.out; omega), B1⟩
              | false =>
                have X := Lib.hid (show Ed.mv1 e x false = e.pos by unfold Ed.mv1; rw [if_neg (by omega), if_neg (by omega), if_neg (by simp)])
                clear t1 t2
                go_wp2_with fail
                go_ret
                exact ⟨ret_int (by have := Q.out; have := X.out; omega), B1⟩
            have d2 : (e.del == 0) = false := beq_eq_false_iff_ne.2 t2
            by_cases t3 : x = e.pos
            · have d3 : (x == e.pos) = true := by simp [t3]
              have X := Lib.hid (show Ed.mv1 e x after = e.pos by unfold Ed.mv1; rw [if_neg (by omega), if_pos (by omega), t3])
              clear t1 t2 t3
              go_wp2_with fail
              go_ret
              exact ⟨ret_int (by have := Q.out; have := X.out; omega), B1⟩
            have d3 : (x == e.pos) = false := beq_eq_false_iff_ne.2 t3
            by_cases t4 : x = e.pos + e.del
            · have d4 : (x == e.pos + e.del) = true := by simp [t4]
              have X := Lib.hid (show Ed.mv1 e x after = e.pos + e.ins.size by unfold Ed.mv1; rw [if_pos (.inr ⟨by omega, by omega⟩)]; omega)
              clear t1 t2 t3 t4
              go_wp2_with fail
              go_ret
              exact ⟨ret_int (by have := Q.out; have := X.out; omega), B1⟩
            have d4 : (x == e.pos + e.del) = false := beq_eq_false_iff_ne.2 t4
            cases after with
            | true =>
                have X := Lib.hid (show Ed.mv1 e x true = e.pos + e.ins.size by unfold Ed.mv1; rw [if_neg (by omega), if_neg (by omega), if_pos rfl])
                clear t1 t2 t3 t4
                go_wp2_with fail
                go_ret
                exact ⟨ret_int (by have := Q.out; have := X.out; omega), B1⟩
            | false =>
                have X := Lib.hid (show Ed.mv1 e x false = e.pos by unfold Ed.mv1; rw [if_neg (by omega), if_neg (by omega), if_neg (by simp)])
                clear t1 t2 t3 t4
                go_wp2_with fail
                go_ret
                exact ⟨ret_int (by have := Q.out; have := X.out; omega), B1⟩
end Go.Proofs.Ytigibeioapkgiaa
