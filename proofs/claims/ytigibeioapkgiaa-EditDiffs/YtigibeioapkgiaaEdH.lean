/- What 'Move' answers, walked. -/
import Derived.Test.YtigibeioapkgiaaEdD
namespace Go.Proofs.Ytigibeioapkgiaa
set_option linter.unusedVariables false
set_option linter.unusedSimpArgs false
open Go.RowKit
theorem Ed.field_0 (a b : Int) (s : ByteArray) (w : World) : (Instr.field 46 (.agg #[.int .i64 a, .int .i64 b, .string s]) 0).run Try.prog w = .ok (.int .i64 a) w := by kernel_rfl
set_option maxRecDepth 100000 in
set_option maxHeartbeats 1000000 in
theorem moved_any (e : Ed.E) (x : Int) (after : Bool) (w : World) (h : e.pos ≤ x) (h0 : 0 ≤ e.pos) (h1 : 0 ≤ e.del) (h2 : e.del ≤ 1000000) (h3 : e.ins.size ≤ 1000000) (h4 : x ≤ 1000000) :
    Calls Try.prog 39 #[.agg #[.int .i64 e.pos, .int .i64 e.del, .string e.ins], .int .i64 x, .bool after] w (Rp.IPost w (Ed.mv1 e x after)) := by
  have B := Rp.below_al w (.cells #[.int .i64 e.pos, .int .i64 e.del, .string e.ins] 46)
  by_cases t1 : e.del < x - e.pos
  · have d1 : decide (e.del < x - e.pos) = true := by simp [t1]
    have q : x + e.ins.size - e.del = Ed.mv1 e x after := by unfold Ed.mv1; rw [if_pos (.inl t1)]
    have Q := Lib.hid q; clear q t1
    go_enter Try.func39, Try.ntmps39
    go_wp2_with fail
    go_ret
    exact ⟨ret_int Q.out, B⟩
  have d1 : decide (e.del < x - e.pos) = false := by simp [t1]
  by_cases t2 : x - e.pos = e.del
  · have d2 : ((x - e.pos) == e.del) = true := by simp [t2]
    by_cases t3 : 0 < e.del
    · have d3 : decide (0 < e.del) = true := by simp [t3]
      have q : x + e.ins.size - e.del = Ed.mv1 e x after := by unfold Ed.mv1; rw [if_pos (.inr ⟨t2, t3⟩)]
      have Q := Lib.hid q; clear q t1 t2 t3
      go_enter Try.func39, Try.ntmps39
      go_wp2_with fail
      go_ret
      exact ⟨ret_int Q.out, B⟩
    · have d3 : decide (0 < e.del) = false := by simp [t3]
      have d4 : ((x - e.pos) == 0) = true := by simp; omega
      cases after with
      | true =>
        have q : e.pos + e.ins.size = Ed.mv1 e x true := by unfold Ed.mv1; rw [if_neg (by omega), if_neg (by omega), if_pos rfl]
        have Q := Lib.hid q; clear q t1 t2 t3
        go_enter Try.func39, Try.ntmps39
        go_wp2_with fail
        go_ret
        exact ⟨ret_int Q.out, B⟩
      | false =>
        have q : e.pos = Ed.mv1 e x false := by unfold Ed.mv1; rw [if_neg (by omega), if_neg (by omega), if_neg (by simp)]
        have Q := Lib.hid q; clear q t1 t2 t3
        go_enter Try.func39, Try.ntmps39
        go_wp2_with fail
        go_ret
        exact ⟨ret_int Q.out, B⟩
  have d2 : ((x - e.pos) == e.del) = false := beq_eq_false_iff_ne.2 t2
  have t3 : 0 < e.del := by omega
  have d3 : decide (0 < e.del) = true := by simp [t3]
  by_cases t4 : x = e.pos
  · have d4 : ((x - e.pos) == 0) = true := by simp; omega
    have q : x = Ed.mv1 e x after := by unfold Ed.mv1; rw [if_neg (by omega), if_pos (by omega)]
    have Q := Lib.hid q; clear q t1 t2 t3 t4
    go_enter Try.func39, Try.ntmps39
    go_wp2_with fail
    go_ret
    exact ⟨ret_int Q.out, B⟩
  have d4 : ((x - e.pos) == 0) = false := beq_eq_false_iff_ne.2 (by omega)
  cases after with
  | true =>
    have q : e.pos + e.ins.size = Ed.mv1 e x true := by unfold Ed.mv1; rw [if_neg (by omega), if_neg (by omega), if_pos rfl]
    have Q := Lib.hid q; clear q t1 t2 t3 t4
    go_enter Try.func39, Try.ntmps39
    go_wp2_with fail
    go_ret
    exact ⟨ret_int Q.out, B⟩
  | false =>
    have q : e.pos = Ed.mv1 e x false := by unfold Ed.mv1; rw [if_neg (by omega), if_neg (by omega), if_neg (by simp)]
    have Q := Lib.hid q; clear q t1 t2 t3 t4
    go_enter Try.func39, Try.ntmps39
    go_wp2_with fail
    go_ret
    exact ⟨ret_int Q.out, B⟩
def Ed.MInv (w : World) (x : Int) (after : Bool) (a : Option Addr) (es : List Ed.E) (cap n g : Nat) (v : Value) (wr : World) : Prop :=
  ∃ (k : Nat) (o i t d : Int), g + k = es.length ∧ v = .int .i64 d ∧ Ed.Crs wr w.heap.size k o i t a es.length cap ∧ Ed.Sm n es k o i t ∧ Ed.mv x after (es.drop k) (i - o) d = Ed.mv x after es 0 x ∧ Below w.heap.size w wr
set_option maxRecDepth 100000 in
set_option maxHeartbeats 1000000 in
theorem move_any (a : Option Addr) (es : List Ed.E) (cap n : Nat) (x : Int) (after : Bool) (w : World) (hR : Ed.Row w a es) (hW : Ed.Wf es) (hM : Ed.May n 0 es) (hn : n ≤ 1000000) (hx : x ≤ 1000000) :
    Calls Try.prog 21 #[.slice a es.length cap, .int .i64 x, .bool after] w (Rp.IPost w (Ed.mv x after es 0 x)) := by
  have HR := Lib.hid hR; clear hR
  have HW := Lib.hid hW; clear hW
  have HM := Lib.hid hM; clear hM
  go_enter Try.func21, Try.ntmps21
  go_wp2_with fail
  have C := Ed.crs_new w a es.length cap
  have B := Rp.below_al w (.cells #[.int .i64 0, .int .i64 0, .int .i64 0, .int .i64 0, .slice a es.length cap] 57)
  generalize w.alloc (.cells #[.int .i64 0, .int .i64 0, .int .i64 0, .int .i64 0, .slice a es.length cap] 57) = W at *
  go_loopg [7] es.length (fun g v wr => Ed.MInv w x after a es cap n g v wr)
  case atStart => exact ⟨0, 0, 0, 0, x, by omega, rfl, C, Ed.sm_new HM.out, rfl, B⟩
  case round =>
    clear C B
    obtain ⟨k, o, i, t, d, hgk, rfl, C, S, hmv, B⟩ := hrel
    have hl := HW.out.len
    have s1 := S.o0; have s2 := S.ot; have s3 := S.tn; have s4 := S.i0; have s5 := S.ik
    by_cases hk : k < es.length
    · obtain ⟨ad, rfl, hE⟩ := HR.out k hk
      replace hE := hE.up B
      obtain ⟨z1, z2, z3, z4, z5⟩ := HW.out.each es[k] (List.getElem_mem hk)
      have S' := S.on hk z1
      obtain ⟨y1, y2, y3⟩ := S.head hk
      have HS := Lib.hid S'
      rw [Ed.mv_step hk] at hmv
      have HMV := Lib.hid hmv
      clear S S' hmv
      go_wp2_with fail
      refine (more_yes C hk).mono ?_
      rintro r w1 ⟨rfl, hb1⟩
      replace C := C.up hb1
      replace hE := hE.up hb1
      replace B := Rp.below_up B hb1
      clear hb1
      generalize es[k] = e at *
      go_wp2_with fail
      refine (edit_walk w.heap.size k es.length cap ad e _ C.c0 C.c4 hk hE).mono ?_
      rintro r w2 ⟨rfl, hb2⟩
      replace C := C.up hb2
      replace hE := hE.up hb2
      replace B := Rp.below_up B hb2
      clear hb2
      have hfl := fun v => Ed.field_0 e.pos e.del e.ins v
      by_cases hp : e.pos ≤ x
      · have d1 : decide (e.pos ≤ x) = true := by simp [hp]
        rw [if_pos hp] at HMV
        obtain ⟨c0, c1, c2, c3, c4, _, _, _, _⟩ := id C
        go_wp2_with fail
        refine (grown_walk _ _ _ _ _ (by omega) (by omega)).mono ?_
        rintro r w3 ⟨rfl, hb3⟩
        replace C := C.up hb3
        replace hE := hE.up hb3
        replace B := Rp.below_up B hb3
        clear hb3 c0 c1 c2 c3 c4
        go_wp2_with fail
        refine (edit_walk w.heap.size k es.length cap ad e _ C.c0 C.c4 hk hE).mono ?_
        rintro r w4 ⟨rfl, hb4⟩
        replace C := C.up hb4
        replace hE := hE.up hb4
        replace B := Rp.below_up B hb4
        clear hb4
        go_wp2_with fail
        have hm1 : 0 ≤ Ed.mv1 e x after := by have := Ed.mv1_low (after := after) hp y2; omega
        have hm2 : Ed.mv1 e x after ≤ 2000000 := by unfold Ed.mv1; (repeat' split) <;> omega
        refine (moved_any e x after w4 hp (by omega) y2 (by omega) (by omega) hx).mono ?_
        rintro r w5 ⟨rfl, hb5⟩
        replace C := C.up hb5
        replace hE := hE.up hb5
        replace B := Rp.below_up B hb5
        clear hb5
        generalize Ed.mv1 e x after = y at *
        go_wp2_with fail
        refine (pass_walk w.heap.size k es.length cap o i t ad e w5 C hk hE (by omega) (by omega) (by omega) (by omega) (by omega) (by omega) (by omega)).mono ?_
        rintro r w6 ⟨rfl, C3, hg⟩
        have B3 := B.grown hg B.size (fun k hk => by injection hk with hk; omega)
        clear C B hE hg
        go_wp2_with fail
        go_roundg (gk - 1)
        case measure => omega
        refine ⟨k + 1, _, _, _, _, by omega, rfl, C3, HS.out, ?_, B3⟩
        rw [← HMV.out]; congr 1; omega
      · have d1 : decide (e.pos ≤ x) = false := by simp [hp]
        rw [if_neg hp] at HMV
        go_wp2_with fail
        refine (pass_walk w.heap.size k es.length cap o i t ad e w2 C hk hE (by omega) (by omega) (by omega) (by omega) (by omega) (by omega) (by omega)).mono ?_
        rintro r w6 ⟨rfl, C3, hg⟩
        have B3 := B.grown hg B.size (fun k hk => by injection hk with hk; omega)
        clear C B hE hg
        go_wp2_with fail
        go_roundg (gk - 1)
        case measure => omega
        refine ⟨k + 1, _, _, _, _, by omega, rfl, C3, HS.out, ?_, B3⟩
        rw [← HMV.out]; congr 1; omega
    · rw [List.drop_eq_nil_of_le (by omega)] at hmv
      have HMV := Lib.hid (show d = Ed.mv x after es 0 x from hmv)
      clear hmv S
      go_wp2_with fail
      refine (more_no C hk).mono ?_
      rintro r w1 ⟨rfl, hb1⟩
      go_wp2_with fail
      go_ret
      exact ⟨ret_int HMV.out, Rp.below_up B hb1⟩
end Go.Proofs.Ytigibeioapkgiaa
