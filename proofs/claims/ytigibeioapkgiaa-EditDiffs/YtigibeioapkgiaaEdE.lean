/- What 'Apply' answers, walked. -/
import Derived.Test.YtigibeioapkgiaaEdD
namespace Go.Proofs.Ytigibeioapkgiaa
set_option linter.unusedVariables false
set_option linter.unusedSimpArgs false
open Go.RowKit
open Rp (Tr)
theorem join_three (b : Nat) (p1 p2 p3 : Option Addr) (l1 l2 l3 : List UInt8) (w : World) (c1 : w.cell? ⟨b, 0, none⟩ = some (.pointer p1)) (c2 : w.cell? ⟨b, 1, none⟩ = some (.pointer p2)) (c3 : w.cell? ⟨b, 2, none⟩ = some (.pointer p3)) (h1 : Rp.Rep w p1 l1) (h2 : Rp.Rep w p2 l2) (h3 : Rp.Rep w p3 l3) (b1 : (l1 ++ l2 ++ l3).length ≤ 4000) :
    Calls Try.prog 33 #[.slice (some ⟨b, 0, none⟩) 3 3] w (Rp.RopePost w (l1 ++ l2 ++ l3) 0) := by
  have hb := b1
  rw [List.length_append, List.length_append] at hb
  have h := joinM_any b 3 (fun i => if i = 0 then p1 else if i = 1 then p2 else p3) [l1, l2, l3] w (by
    intro i hi
    match i, hi with
    | 0, _ => exact ⟨c1, h1⟩
    | 1, _ => exact ⟨c2, h2⟩
    | 2, _ => exact ⟨c3, h3⟩) (by simp) (by
    intro i
    match i with
    | 0 => show l1.length ≤ _; omega
    | 1 => show l2.length ≤ _; omega
    | 2 => show l3.length ≤ _; omega
    | n + 3 => simp)
  have e : [l1, l2, l3].flatten = l1 ++ l2 ++ l3 := by simp
  rw [e] at h
  refine h.mono fun e w' hj => ?_
  unfold Rp.JoinPost at hj
  rw [if_pos b1] at hj; exact hj
theorem join_both (b : Nat) (p1 p2 : Option Addr) (l1 l2 : List UInt8) (w : World) (c1 : w.cell? ⟨b, 0, none⟩ = some (.pointer p1)) (c2 : w.cell? ⟨b, 1, none⟩ = some (.pointer p2)) (h1 : Rp.Rep w p1 l1) (h2 : Rp.Rep w p2 l2) (b1 : (l1 ++ l2).length ≤ 4000) :
    Calls Try.prog 33 #[.slice (some ⟨b, 0, none⟩) 2 2] w (Rp.RopePost w (l1 ++ l2) 0) := by
  have hb := b1
  rw [List.length_append] at hb
  have h := joinM_any b 2 (fun i => if i = 0 then p1 else p2) [l1, l2] w (by
    intro i hi
    match i, hi with
    | 0, _ => exact ⟨c1, h1⟩
    | 1, _ => exact ⟨c2, h2⟩) (by simp) (by
    intro i
    match i with
    | 0 => show l1.length ≤ _; omega
    | 1 => show l2.length ≤ _; omega
    | n + 2 => simp)
  have e : [l1, l2].flatten = l1 ++ l2 := by simp
  rw [e] at h
  refine h.mono fun e w' hj => ?_
  unfold Rp.JoinPost at hj
  rw [if_pos b1] at hj; exact hj
set_option maxRecDepth 100000 in
set_option maxHeartbeats 1000000 in
theorem apply_no (p : Option Addr) (s : ByteArray) (a : Option Addr) (es : List Ed.E) (cap : Nat) (w : World) (hp : Rp.Rep w p s.data.toList) (hs : s.size ≤ 1000000) (hR : Ed.Row w a es) (hW : Ed.Wf es) (h0 : ¬ Ed.chk s es 0 0 = 0) :
    Calls Try.prog 11 #[.agg #[.pointer p], .slice a es.length cap] w (Rp.RopePost w [] (Ed.chk s es 0 0)) := by
  have HR := Lib.hid hR; clear hR
  have HW := Lib.hid hW; clear hW
  have d1 : (Ed.chk s es 0 0 == 0) = false := beq_eq_false_iff_ne.2 h0
  clear h0
  go_enter Try.func11, Try.ntmps11
  go_wp2_with fail
  have B : Below w.heap.size w ((w.alloc (.cells #[.pointer p] 27)).alloc (.cells #[.pointer none] 27)) := Rp.below_al2 _ _ _
  have X := Ed.box_new (Rp.Rep.none (w.alloc (.cells #[.pointer p] 27)))
  have eN : (w.alloc (.cells #[.pointer p] 27)).heap.size = w.heap.size + 1 := by simp [go_sem]
  rw [eN] at X; clear eN
  have hp' := hp.up B
  generalize (w.alloc (.cells #[.pointer p] 27)).alloc (.cells #[.pointer none] 27) = W at *
  refine (check_any p s a es cap _ hp' hs (HR.out.up B) HW.out).mono ?_
  rintro r w1 ⟨rfl, hb1⟩
  replace X := X.up hb1
  replace B := Rp.below_up B hb1
  obtain ⟨x0, _, x2⟩ := X
  generalize Ed.chk s es 0 0 = y at *
  go_wp2_with fail
  exact bodyPost_ret (v := .tuple #[.agg #[.pointer none], .int .i64 y]) (by simp [results, Try.results11, go_sem, x0]) rfl ⟨none, rfl, Rp.Rep.none _, B.setCell (by simp) _⟩
/-- what is known ahead of a round of Apply; G: the text, G + 1: the rest, G + 2: the course, w.heap.size + 1: the answer -/
structure Ed.AInv' (w : World) (s : ByteArray) (a : Option Addr) (es : List Ed.E) (cap G k : Nat) (o i t : Int) (pt pr : Option Addr) (T : List UInt8) (wr : World) : Prop where
  C : Ed.Crs wr (G + 2) k o i t a es.length cap
  S : Ed.Sm s.size es k o i t
  X : Ed.Box G pt T wr
  Y : Ed.Box (G + 1) pr (s.data.toList.drop t.toNat) wr
  Z : Ed.Box (w.heap.size + 1) none [] wr
  B : Below w.heap.size w wr
  E : T ++ Ed.fwd s.data.toList t (es.drop k) = Ed.app s.data.toList es
def Ed.AInv (w : World) (s : ByteArray) (a : Option Addr) (es : List Ed.E) (cap G g : Nat) (wr : World) : Prop :=
  ∃ (k : Nat) (o i t : Int) (pt pr : Option Addr) (T : List UInt8), g + k = es.length ∧ Ed.AInv' w s a es cap G k o i t pt pr T wr
set_option maxRecDepth 100000 in
set_option maxHeartbeats 2000000 in
theorem apply_yes (p : Option Addr) (s : ByteArray) (a : Option Addr) (es : List Ed.E) (cap : Nat) (w : World) (hp : Rp.Rep w p s.data.toList) (hs : s.size ≤ 1000000) (hR : Ed.Row w a es) (hW : Ed.Wf es) (h0 : Ed.chk s es 0 0 = 0) :
    Calls Try.prog 11 #[.agg #[.pointer p], .slice a es.length cap] w (Rp.RopePost w (Ed.app s.data.toList es) 0) := by
  have HR := Lib.hid hR; clear hR
  have HW := Lib.hid hW; clear hW
  obtain ⟨hM, _, h4⟩ := Ed.chk_zero h0
  have hl0 : s.data.toList.length = s.size := Rn.len_data0 s
  have hA := Ed.app_len s.data.toList (t := 0) (by rw [hl0]; exact hM) (by omega) (by omega)
  have hAF := Ed.app_fwd s.data.toList (t := 0) (by rw [hl0]; exact hM) (by omega) (by omega)
  rw [show (0 : Int).toNat = 0 by rfl, List.take_zero, List.nil_append] at hAF
  have HAF := Lib.hid hAF; clear hAF
  have hA4 : (Ed.app s.data.toList es).length ≤ 4000 := by omega
  have HM := Lib.hid hM; clear hM hA h4
  go_enter Try.func11, Try.ntmps11
  go_wp2_with fail
  have B : Below w.heap.size w ((w.alloc (.cells #[.pointer p] 27)).alloc (.cells #[.pointer none] 27)) := Rp.below_al2 _ _ _
  have Z := Ed.box_new (Rp.Rep.none (w.alloc (.cells #[.pointer p] 27)))
  have eN : (w.alloc (.cells #[.pointer p] 27)).heap.size = w.heap.size + 1 := by simp [go_sem]
  rw [eN] at Z; clear eN
  have V := (Rp.var_new hp).up (Rp.below_al _ (.cells #[.pointer none] 27))
  generalize (w.alloc (.cells #[.pointer p] 27)).alloc (.cells #[.pointer none] 27) = W at *
  have CK := check_any p s a es cap _ V.rep hs (HR.out.up B) HW.out
  rw [h0] at CK
  refine CK.mono ?_
  rintro r w1 ⟨rfl, hb1⟩
  replace Z := Z.up hb1
  replace B := Rp.below_up B hb1
  replace V := V.up hb1
  have v0 := V.cell
  have lt0 : w.heap.size < w1.heap.size := World.block_lt_of_cell? w1 _ v0
  have lt1 : w.heap.size + 1 < w1.heap.size := World.block_lt_of_cell? w1 _ Z.cell
  clear hb1 CK hp h0
  go_wp2_with fail
  have U := Rp.below_al3 w1 (.cells #[.pointer none] 27) (.cells #[.pointer p] 27) (.cells #[.int .i64 0, .int .i64 0, .int .i64 0, .int .i64 0, .slice a es.length cap] 57)
  have X := ((Ed.box_new (Rp.Rep.none w1)).up (Rp.below_al _ (.cells #[.pointer p] 27))).up (Rp.below_al _ (.cells #[.int .i64 0, .int .i64 0, .int .i64 0, .int .i64 0, .slice a es.length cap] 57))
  have Y := (Ed.box_new (V.rep.al (.cells #[.pointer none] 27))).up (Rp.below_al _ (.cells #[.int .i64 0, .int .i64 0, .int .i64 0, .int .i64 0, .slice a es.length cap] 57))
  have C := Ed.crs_new ((w1.alloc (.cells #[.pointer none] 27)).alloc (.cells #[.pointer p] 27)) a es.length cap
  have e1 : (w1.alloc (.cells #[.pointer none] 27)).heap.size = w1.heap.size + 1 := by simp [go_sem]
  have e2 : ((w1.alloc (.cells #[.pointer none] 27)).alloc (.cells #[.pointer p] 27)).heap.size = w1.heap.size + 2 := by simp [go_sem]
  rw [e1] at Y
  rw [e2] at C
  replace Z := Z.up U
  replace B := Rp.below_up B U
  clear e1 e2 U V v0
  generalize ((w1.alloc (.cells #[.pointer none] 27)).alloc (.cells #[.pointer p] 27)).alloc (.cells #[.int .i64 0, .int .i64 0, .int .i64 0, .int .i64 0, .slice a es.length cap] 57) = W1 at *
  have g2 : w1.heap.size + 1 + 1 = w1.heap.size + 2 := rfl
  rw [g2]
  generalize w1.heap.size = G at *
  go_loopg [] es.length (fun g wr => Ed.AInv w s a es cap G g wr)
  case atStart => exact ⟨0, 0, 0, 0, none, p, [], by omega, C, Ed.sm_new HM.out, X, Y, Z, B, HAF.out.symm⟩
  case round =>
    clear C X Y Z B
    obtain ⟨k, o, i, t, pt, pr, T, hgk, C, S, X, Y, Z, B, E⟩ := hrel
    have hl := HW.out.len
    have s1 := S.o0; have s2 := S.ot; have s3 := S.tn; have s4 := S.i0; have s5 := S.ik
    by_cases hk : k < es.length
    · obtain ⟨x, rfl, hE⟩ := HR.out k hk
      have HE0 := Lib.hid hE
      replace hE := hE.up B
      obtain ⟨z1, z2, z3, z4, z5⟩ := HW.out.each es[k] (List.getElem_mem hk)
      have S' := S.on hk z1
      obtain ⟨y1, y2, y3⟩ := S.head hk
      have HS := Lib.hid S'
      rw [Ed.drop_at hk] at E
      generalize hee : es[k] = e at *
      have E' : T ++ ((s.data.toList.drop t.toNat).take (e.pos - t).toNat ++ e.ins.data.toList ++ Ed.fwd s.data.toList (e.pos + e.del) (es.drop (k + 1))) = Ed.app s.data.toList es := E
      obtain ⟨K, hK⟩ := Int.eq_ofNat_of_zero_le (show 0 ≤ e.pos - t by omega)
      obtain ⟨D, hD⟩ := Int.eq_ofNat_of_zero_le y2
      rw [hK, Int.toNat_natCast] at E'
      have hlen : T.length + K + e.ins.size ≤ 4000 := by
        rw [← E'] at hA4
        simp only [List.length_append, List.length_take, List.length_drop, Rn.len_data0] at hA4
        omega
      have hdl : (s.data.toList.drop t.toNat).length = s.size - t.toNat := by rw [List.length_drop, hl0]
      have HE := Lib.hid E'
      have HK := Lib.hid hK
      have HD := Lib.hid hD
      clear S S' E E' hee hK hD
      go_wp2_with fail
      refine (more_yes C hk).mono ?_
      rintro r w2 ⟨rfl, hb2⟩
      replace C := C.up hb2
      replace X := X.up hb2
      replace Y := Y.up hb2
      replace Z := Z.up hb2
      replace hE := hE.up hb2
      replace B := Rp.below_up B hb2
      clear hb2
      go_wp2_with fail
      refine (edit_walk (G + 2) k es.length cap x e _ C.c0 C.c4 hk hE).mono ?_
      rintro r w3 ⟨rfl, hb2⟩
      have lM := (C.up hb2).lt
      have hb3 := Rp.below_up hb2 (Rp.below_al w3 (.cells #[.int .i64 e.pos, .int .i64 e.del, .string e.ins] 46))
      replace C := C.up hb3
      replace X := X.up hb3
      replace Y := Y.up hb3
      replace Z := Z.up hb3
      replace B := Rp.below_up B hb3
      obtain ⟨n0, n1, n2⟩ := Ed.at_new w3 e
      simp only [Nat.zero_add] at n1 n2
      clear hb2 hb3 hE
      have c3 := C.c3
      have y0 := Y.cell
      go_wp2_with fail
      generalize w3.alloc (.cells #[.int .i64 e.pos, .int .i64 e.del, .string e.ins] 46) = W3 at *
      generalize w3.heap.size = M at *
      have SP := split_yes pr (s.data.toList.drop t.toNat) K W3 Y.rep (by omega) (by have := HK.out; omega)
      rw [← HK.out] at SP
      refine SP.mono ?_
      rintro r w4 ⟨q1, q2, rfl, hq1, hq2, hb4⟩
      replace C := C.up hb4
      replace X := X.up hb4
      replace Y := Y.up hb4
      replace Z := Z.up hb4
      replace B := Rp.below_up B hb4
      replace n1 := Rp.cell_up hb4 n1
      replace n2 := Rp.cell_up hb4 n2
      clear n0 y0 c3 hb4 SP
      have lP := World.block_lt_of_cell? w4 _ n1
      simp only at lP
      have hb5 := Rp.below_al2 w4 (.cells #[.pointer q1] 27) (.cells #[.pointer q2] 27)
      have P1 := (Ed.box_new hq1).up (Rp.below_al _ (.cells #[.pointer q2] 27))
      have P2 := Ed.box_new (hq2.al (.cells #[.pointer q1] 27))
      have e1 : (w4.alloc (.cells #[.pointer q1] 27)).heap.size = w4.heap.size + 1 := by simp [go_sem]
      rw [e1] at P2
      replace C := C.up hb5
      replace X := X.up hb5
      replace Y := Y.up hb5
      replace Z := Z.up hb5
      replace B := Rp.below_up B hb5
      replace n1 := Rp.cell_up hb5 n1
      replace n2 := Rp.cell_up hb5 n2
      clear hq1 hq2 e1
      go_wp2_with fail
      clear hb5
      generalize (w4.alloc (.cells #[.pointer q1] 27)).alloc (.cells #[.pointer q2] 27) = W4 at *
      generalize w4.heap.size = P at *
      refine (of_yes e.ins W4 (by omega)).mono ?_
      rintro r w5 ⟨q3, rfl, hq3, hb5⟩
      replace hb5 := Rp.below_up hb5 (Rp.below_al w5 (.cells #[.pointer q3] 27))
      have P3 := Ed.box_new hq3
      replace C := C.up hb5
      replace X := X.up hb5
      replace Y := Y.up hb5
      replace Z := Z.up hb5
      replace B := Rp.below_up B hb5
      replace n1 := Rp.cell_up hb5 n1
      replace P1 := P1.up hb5
      replace P2 := P2.up hb5
      clear hb5 hq3 n2
      have x0 := X.cell; have p1 := P1.cell; have p3 := P3.cell
      go_wp2_with fail
      have hb6 := Rp.below_al (w5.alloc (.cells #[.pointer q3] 27)) (.cells #[.pointer pt, .pointer q1, .pointer q3] 27)
      replace C := C.up hb6
      replace X := X.up hb6
      replace Y := Y.up hb6
      replace Z := Z.up hb6
      replace B := Rp.below_up B hb6
      replace n1 := Rp.cell_up hb6 n1
      replace P1 := P1.up hb6
      replace P2 := P2.up hb6
      replace P3 := P3.up hb6
      have e5 : (w5.alloc (.cells #[.pointer q3] 27)).heap.size = w5.heap.size + 1 := by simp [go_sem]
      obtain ⟨j0, j1, j2⟩ : (let V := (w5.alloc (.cells #[.pointer q3] 27)).alloc (.cells #[.pointer pt, .pointer q1, .pointer q3] 27); V.cell? ⟨w5.heap.size + 1, 0, none⟩ = some (.pointer pt) ∧ V.cell? ⟨w5.heap.size + 1, 1, none⟩ = some (.pointer q1) ∧ V.cell? ⟨w5.heap.size + 1, 2, none⟩ = some (.pointer q3)) := by
        rw [← e5]
        refine ⟨by simp [go_sem], by simp [go_sem], by simp [go_sem]⟩
      clear x0 p1 p3 hb6 e5
      generalize (w5.alloc (.cells #[.pointer q3] 27)).alloc (.cells #[.pointer pt, .pointer q1, .pointer q3] 27) = W5 at *
      refine (join_three _ pt q1 q3 _ _ _ W5 j0 j1 j2 X.rep P1.rep P3.rep (by rw [List.length_append, List.length_append, List.length_take, Rn.len_data0]; omega)).mono ?_
      rintro r w6 ⟨q4, rfl, hq4, hb6⟩
      replace C := C.up hb6
      replace X := X.up hb6
      replace Y := Y.up hb6
      replace Z := Z.up hb6
      replace B := Rp.below_up B hb6
      replace n1 := Rp.cell_up hb6 n1
      replace P2 := P2.up hb6
      clear hb6 j0 j1 j2 P1 P3
      have x0 := X.cell; have xf := X.fz
      have B' := B.setCell (p := ⟨G, 0, none⟩) (by show _ ≤ G; omega) (.pointer q4)
      have C' := C.set (d := G) (by omega) (.pointer q4)
      have X' := X.set hq4
      have Y' := Y.set' x0 (.pointer q4) (by omega)
      have Z' := Z.set' x0 (.pointer q4) (by omega)
      have n1' := Rp.cell_set (p := ⟨G, 0, none⟩) (u := .pointer q4) n1 (by show G ≠ M; omega)
      have P2' := P2.set' x0 (.pointer q4) (by omega)
      have p2 := P2'.cell
      clear B C X Y Z n1 P2 hq4
      go_wp2_with fail
      clear x0 xf p2
      generalize w6.setCell ⟨G, 0, none⟩ (.pointer q4) = W6 at *
      have TK := takeM_yes q2 _ 0 e.del W6 P2'.rep (by rw [List.length_drop]; omega) (by rw [List.length_drop, hdl]; simp [Rp.spanB]; have := HK.out; omega)
      rw [HD.out, Rp.tk_right] at TK
      rw [HD.out]
      refine TK.mono ?_
      rintro r w7 ⟨q5, rfl, hq5, hb7⟩
      rw [← HD.out]
      replace B' := Rp.below_up B' hb7
      replace C' := C'.up hb7
      replace X' := X'.up hb7
      replace Y' := Y'.up hb7
      replace Z' := Z'.up hb7
      have y0 := Y'.cell; have yf := Y'.fz
      have B := B'.setCell (p := ⟨G + 1, 0, none⟩) (by show _ ≤ G + 1; omega) (.pointer q5)
      have C := C'.set (d := G + 1) (by omega) (.pointer q5)
      have Y := Y'.set hq5
      have X := X'.set' y0 (.pointer q5) (by omega)
      have Z := Z'.set' y0 (.pointer q5) (by omega)
      clear B' C' X' Y' Z' TK hq5 P2' hb7 n1'
      go_wp2_with fail
      clear y0 yf
      generalize w7.setCell ⟨G + 1, 0, none⟩ (.pointer q5) = W7 at *
      have hE := HE0.out.up B
      refine (pass_walk (G + 2) k es.length cap o i t x e W7 C hk hE (by omega) (by omega) (by omega) (by omega) (by omega) (by omega) (by omega)).mono ?_
      rintro r w8 ⟨rfl, C8, hg⟩
      have B8 := B.grown hg B.size (fun k hk => by injection hk with hk; omega)
      have X8 := X.pass hg C.c4 (by omega)
      have Y8 := Y.pass hg C.c4 (by omega)
      have Z8 := Z.pass hg C.c4 (by omega)
      clear C X Y Z B hE hg
      go_wp2_with fail
      go_roundg (gk - 1)
      case measure => omega
      refine ⟨k + 1, _, _, _, _, q5, _, by omega, C8, HS.out, X8, ?_, Z8, B8, ?_⟩
      · have e7 : (List.drop D (List.drop K (List.drop t.toNat s.data.toList))) = List.drop (e.pos + e.del).toNat s.data.toList := by
          rw [List.drop_drop, List.drop_drop]; congr 1; have := HK.out; have := HD.out; omega
        rw [← e7]; exact Y8
      · rw [← HE.out]; simp
    · have hE9 := E
      rw [List.drop_eq_nil_of_le (by omega)] at hE9
      have E9 : T ++ s.data.toList.drop t.toNat = Ed.app s.data.toList es := hE9
      clear hE9 E S
      have hJ : (T ++ s.data.toList.drop t.toNat).length ≤ 4000 := by rw [E9]; exact hA4
      have HE := Lib.hid E9
      clear E9
      go_wp2_with fail
      refine (more_no C hk).mono ?_
      rintro r w2 ⟨rfl, hb2⟩
      replace X := X.up hb2
      replace Y := Y.up hb2
      replace Z := Z.up hb2
      replace B := Rp.below_up B hb2
      clear hb2
      have x0 := X.cell; have y0 := Y.cell
      go_wp2_with fail
      have hb6 := Rp.below_al w2 (.cells #[.pointer pt, .pointer pr] 27)
      replace X := X.up hb6
      replace Y := Y.up hb6
      replace Z := Z.up hb6
      replace B := Rp.below_up B hb6
      obtain ⟨j0, j1⟩ : (let V := w2.alloc (.cells #[.pointer pt, .pointer pr] 27); V.cell? ⟨w2.heap.size, 0, none⟩ = some (.pointer pt) ∧ V.cell? ⟨w2.heap.size, 1, none⟩ = some (.pointer pr)) := ⟨by simp [go_sem], by simp [go_sem]⟩
      clear hb6 x0 y0
      generalize w2.alloc (.cells #[.pointer pt, .pointer pr] 27) = W2 at *
      refine (join_both _ pt pr _ _ W2 j0 j1 X.rep Y.rep hJ).mono ?_
      rintro r w3 ⟨q, rfl, hq, hb3⟩
      replace X := X.up hb3
      replace Z := Z.up hb3
      replace B := Rp.below_up B hb3
      have x0 := X.cell; have xf := X.fz
      have z0 := Z.cell; have zf := Z.fz
      have n1 : G ≠ w.heap.size + 1 := by omega
      have n2 : w.heap.size + 1 ≠ G := by omega
      have X' := X.set hq
      have Z' := Z.set' x0 (.pointer q) (by omega)
      have B' := (B.setCell (p := ⟨G, 0, none⟩) (by show _ ≤ G; omega) (.pointer q)).setCell (p := ⟨w.heap.size + 1, 0, none⟩) (by show _ ≤ w.heap.size + 1; omega) (.pointer q)
      have Q := X'.rep.set Z'.cell (.pointer q)
      have xx := X'.cell; have zz := Z'.cell; have zzf := Z'.fz
      clear X Z B hb3
      go_wp2_with fail
      refine bodyPost_ret (v := .tuple #[.agg #[.pointer q], .int .i64 0]) (by simp [results, Try.results11, go_sem, z0, x0, n1, n2]) rfl ⟨q, rfl, ?_, B'⟩
      rw [← HE.out]; exact Q
end Go.Proofs.Ytigibeioapkgiaa
