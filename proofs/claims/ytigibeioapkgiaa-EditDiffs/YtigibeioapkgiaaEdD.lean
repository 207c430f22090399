/- What 'Check' answers, walked. What 'Grow' answers, walked; boxes. -/
import Derived.Test.YtigibeioapkgiaaEdB
import Derived.Test.YtigibeioapkgiaaRpZ
namespace Go.Proofs.Ytigibeioapkgiaa
set_option linter.unusedVariables false
set_option linter.unusedSimpArgs false
open Go.RowKit
open Rp (Tr)
/-- the list's cells are the edits -/
def Ed.Row (w : World) (a : Option Addr) (es : List Ed.E) : Prop := ∀ i (h : i < es.length), ∃ x, a = some x ∧ Ed.At w (x.add (i * 3)) es[i]
theorem Ed.Row.up {w w' : World} {a : Option Addr} {es : List Ed.E} (h : Ed.Row w a es) (hb : Below w.heap.size w w') : Ed.Row w' a es := fun i hi => by
  obtain ⟨x, e, h⟩ := h i hi
  exact ⟨x, e, h.up hb⟩
theorem Ed.Row.take {w : World} {a : Option Addr} {es : List Ed.E} (h : Ed.Row w a es) (k : Nat) : Ed.Row w a (es.take k) := fun i hi => by
  rw [List.length_take] at hi
  obtain ⟨x, e, h⟩ := h i (by omega)
  refine ⟨x, e, ?_⟩
  rw [List.getElem_take]; exact h
/-- not too many, nor too long; what a number can hold -/
structure Ed.Wf (es : List Ed.E) : Prop where
  len : es.length ≤ 1000
  each : ∀ e ∈ es, e.ins.size ≤ 100000 ∧ -9223372036854775808 ≤ e.pos ∧ e.pos ≤ 9223372036854775807 ∧ -9223372036854775808 ≤ e.del ∧ e.del ≤ 9223372036854775807
theorem Ed.part_pass {w w' : World} {c : Nat} (hg : w.grownBy w' (some c)) {a : Option Addr} {n cap : Nat} (hr : w.cell? ⟨c, 4, none⟩ = some (.slice a n cap)) {b : Nat} {t : Tr} (h : Rp.IsPart w b t) : Rp.IsPart w' b t := by
  have key : ∀ {b : Nat} {t : Tr} {p q : Option Addr}, Rp.Cells w b t p q → Rp.Cells w' b t p q := by
    intro b t p q h
    have hne : some b ≠ some c := fun e => by
      injection e with e
      subst e
      have := h.c4
      rw [hr] at this
      simp at this
    exact ⟨hg.cell h.c0 hne, hg.cell h.c1 hne, hg.cell h.c2 hne, hg.cell h.c3 hne, hg.cell h.c4 hne, hg.cell h.c5 hne, hg.cell h.c6 hne⟩
  induction t generalizing b with
  | leaf s => exact key h
  | node l r il ir => obtain ⟨x, y, hc', hl, hr⟩ := h; exact ⟨x, y, key hc', il hl, ir hr⟩
theorem Ed.rep_pass {w w' : World} {c : Nat} (hg : w.grownBy w' (some c)) {a : Option Addr} {n cap : Nat} (hr : w.cell? ⟨c, 4, none⟩ = some (.slice a n cap)) {p : Option Addr} {l : List UInt8} (h : Rp.Rep w p l) : Rp.Rep w' p l := by
  rcases h with h | ⟨b, t, e, hp, g, ht⟩
  · exact .inl h
  · exact .inr ⟨b, t, e, Ed.part_pass hg hr hp, g, ht⟩
theorem Ed.var_pass {w w' : World} {c : Nat} (hg : w.grownBy w' (some c)) {a : Option Addr} {n cap : Nat} (hr : w.cell? ⟨c, 4, none⟩ = some (.slice a n cap)) {v : Nat} (hv : v ≠ c) {p : Option Addr} {l : List UInt8} (h : Rp.Var v p l w) : Rp.Var v p l w' :=
  ⟨hg.cell h.cell (by simpa using hv), Ed.rep_pass hg hr h.rep⟩
theorem more_yes {c k n cap : Nat} {o i t : Int} {a : Option Addr} {w : World} (C : Ed.Crs w c k o i t a n cap) (h : k < n) : Calls Try.prog 27 #[.pointer (some ⟨c, 0, none⟩)] w (Rp.BPost w true) := by
  have := more_walk c k n cap a w C.c0 C.c4
  rw [decide_eq_true h] at this
  refine this.mono ?_
  rintro e w' ⟨rfl, m, rfl⟩
  exact ⟨rfl, Rp.below_drewN (Below.refl _ _) m⟩
theorem more_no {c k n cap : Nat} {o i t : Int} {a : Option Addr} {w : World} (C : Ed.Crs w c k o i t a n cap) (h : ¬ k < n) : Calls Try.prog 27 #[.pointer (some ⟨c, 0, none⟩)] w (Rp.BPost w false) := by
  have := more_walk c k n cap a w C.c0 C.c4
  rw [decide_eq_false h] at this
  refine this.mono ?_
  rintro e w' ⟨rfl, m, rfl⟩
  exact ⟨rfl, Rp.below_drewN (Below.refl _ _) m⟩
/-- what is known ahead of a round of Check -/
def Ed.CInv (w : World) (p : Option Addr) (s : ByteArray) (a : Option Addr) (es : List Ed.E) (cap g : Nat) (wr : World) : Prop :=
  ∃ (k : Nat) (o i t : Int), g + k = es.length ∧ Ed.Crs wr (w.heap.size + 1) k o i t a es.length cap ∧ Rp.Var w.heap.size p s.data.toList wr ∧ Below w.heap.size w wr ∧ Ed.chk s (es.drop k) t (i - o) = Ed.chk s es 0 0 ∧ 0 ≤ o ∧ o ≤ t ∧ t ≤ s.size ∧ 0 ≤ i ∧ i ≤ k * 100000
set_option maxRecDepth 100000 in
set_option maxHeartbeats 1000000 in
theorem check_any (p : Option Addr) (s : ByteArray) (a : Option Addr) (es : List Ed.E) (cap : Nat) (w : World) (hp : Rp.Rep w p s.data.toList) (hs : s.size ≤ 1000000) (hR : Ed.Row w a es) (hW : Ed.Wf es) :
    Calls Try.prog 10 #[.agg #[.pointer p], .slice a es.length cap] w (Rp.IPost w (Ed.chk s es 0 0)) := by
  have HR := Lib.hid hR; clear hR
  have HW := Lib.hid hW; clear hW
  go_enter Try.func10, Try.ntmps10
  go_wp2_with fail
  have V := (Rp.var_new hp).up (Rp.below_al _ (.cells #[.int .i64 0, .int .i64 0, .int .i64 0, .int .i64 0, .slice a es.length cap] 57))
  have C := Ed.crs_new (w.alloc (.cells #[.pointer p] 27)) a es.length cap
  have eN : (w.alloc (.cells #[.pointer p] 27)).heap.size = w.heap.size + 1 := by simp [go_sem]
  rw [eN] at C
  have B : Below w.heap.size w ((w.alloc (.cells #[.pointer p] 27)).alloc (.cells #[.int .i64 0, .int .i64 0, .int .i64 0, .int .i64 0, .slice a es.length cap] 57)) := Rp.below_al2 _ _ _
  clear eN hp
  generalize (w.alloc (.cells #[.pointer p] 27)).alloc (.cells #[.int .i64 0, .int .i64 0, .int .i64 0, .int .i64 0, .slice a es.length cap] 57) = W at *
  go_loopg [] es.length (fun g wr => Ed.CInv w p s a es cap g wr)
  case atStart => exact ⟨0, 0, 0, 0, by omega, C, V, B, by simp, by omega, by omega, by omega, by omega, by omega⟩
  case round =>
    clear C V B
    obtain ⟨k, o, i, t, hgk, C, V, B, hch, ho, hot, hts, hi, hik⟩ := hrel
    have HCH := Lib.hid hch; clear hch
    have v0 := V.cell
    by_cases hk : k < es.length
    · obtain ⟨x, rfl, hE⟩ := HR.out k hk
      replace hE := hE.up B
      obtain ⟨z1, z2, z3, z4, z5⟩ := HW.out.each es[k] (List.getElem_mem hk)
      have hl := HW.out.len
      have HG := Lib.hid (fun (h : Ed.bad s t es[k] = 0) => Ed.chk_go hk (g := i - o) h)
      have HS := Lib.hid (fun (h : ¬ Ed.bad s t es[k] = 0) => Ed.chk_stop hk (g := i - o) h)
      go_wp2_with fail
      refine (more_yes C hk).mono ?_
      rintro r w1 ⟨rfl, hb1⟩
      replace C := C.up hb1
      replace V := V.up hb1
      replace hE := hE.up hb1
      replace B := Rp.below_up B hb1
      replace v0 := V.cell
      clear hb1
      generalize es[k] = e at *
      go_wp2_with fail
      have FW := fault_walk (w.heap.size + 1) k es.length cap o i t x e p s w1 C hk hE V.rep hs (by omega) z3 (by unfold maxLen; omega)
      by_cases hb : Ed.bad s t e = 0
      · rw [hb] at FW
        have E := HG.out hb
        rw [HCH.out] at E
        have HE := Lib.hid E.symm
        obtain ⟨y1, y2, y3, _, _, _⟩ := Ed.bad_zero hb
        clear E hb HCH HG HS
        refine FW.mono ?_
        rintro r w2 ⟨rfl, hb2⟩
        replace C := C.up hb2
        replace V := V.up hb2
        replace hE := hE.up hb2
        replace B := Rp.below_up B hb2
        clear hb2 v0
        go_wp2_with fail
        refine (pass_walk (w.heap.size + 1) k es.length cap o i t x e w2 C hk hE (by omega) (by omega) (by omega) (by omega) (by omega) (by omega) (by omega)).mono ?_
        rintro r w3 ⟨rfl, C3, hg⟩
        have B3 := B.grown hg B.size (fun k hk => by injection hk with hk; omega)
        have V3 := Ed.var_pass hg C.c4 (by omega) V
        clear C V B hE hg
        go_wp2_with fail
        go_roundg (gk - 1)
        case measure => omega
        refine ⟨k + 1, _, _, _, by omega, C3, V3, B3, ?_, by omega, by omega, by omega, by omega, by omega⟩
        rw [← HE.out]; congr 1; omega
      · have E := HS.out hb
        rw [HCH.out] at E
        have HE := Lib.hid E.symm
        have d1 : (Ed.bad s t e == 0) = false := beq_eq_false_iff_ne.2 hb
        clear E hb HCH HG HS
        refine FW.mono ?_
        rintro r w2 ⟨rfl, hb2⟩
        go_wp2_with fail
        go_ret
        exact ⟨ret_int HE.out, Rp.below_up B hb2⟩
    · have HE := Lib.hid (Ed.chk_end (s := s) (t := t) (g := i - o) hk)
      go_wp2_with fail
      refine (more_no C hk).mono ?_
      rintro r w1 ⟨rfl, hb1⟩
      replace C := C.up hb1
      replace V := V.up hb1
      replace B := Rp.below_up B hb1
      replace v0 := V.cell
      obtain ⟨c0, c1, c2, c3, c4, _, _, _, _⟩ := C
      have R := V.rep
      clear hb1 V
      have hkl : k ≤ 1000 := by have := HW.out.len; omega
      go_wp2_with fail
      have hw : IntKind.i64.wrap ((s.size : Int) + (i - o)) = s.size + (i - o) := IntWalk.i64_in _ (by omega)
      by_cases hbig : 4000 < (s.size : Int) + (i - o)
      · rw [if_pos hbig] at HE
        have d1 : decide (4000 < (s.size : Int) + (i - o)) = true := by simp [hbig]
        clear hbig
        go_region_held3 (fun v => v.cell? ⟨w.heap.size, 0, none⟩ = some (.pointer p) ∧ v.cell? ⟨w.heap.size + 1, 0, none⟩ = some (.int .i64 k) ∧ v.cell? ⟨w.heap.size + 1, 1, none⟩ = some (.int .i64 o) ∧ v.cell? ⟨w.heap.size + 1, 2, none⟩ = some (.int .i64 i) ∧ v.cell? ⟨w.heap.size + 1, 3, none⟩ = some (.int .i64 t) ∧ Rp.Rep v p s.data.toList ∧ Below w.heap.size w v)
          (first
            | (refine ⟨?_, ?_, ?_, ?_, ?_, ?_, ?_⟩ <;> with_reducible (first | (refine Rp.cell_dr ?_; assumption) | (refine Rp.Rep.dr ?_; assumption) | (refine Rp.below_dr ?_; assumption)))
            | (go_split_ands; refine ⟨?_, ?_, ?_, ?_, ?_, ?_, ?_⟩ <;> with_reducible (first | (refine Rp.cell_up hb2 ?_; assumption) | (refine Rp.Rep.up hb2 ?_; assumption) | (refine Rp.below_up ?_ hb2; assumption)))
            | (go_split_ands; refine ⟨?_, ?_, ?_, ?_, ?_, ?_, ?_⟩ <;> with_reducible (first | (refine Rp.cell_up hb3 ?_; assumption) | (refine Rp.Rep.up hb3 ?_; assumption) | (refine Rp.below_up ?_ hb3; assumption))))
          (first
            | (go_at_call 14; go_split_ands; refine (len_s p s _ (by assumption)).mono ?_; rintro r w2 ⟨rfl, hb2⟩)
            | (go_at_call 30; refine (grown_walk _ _ _ _ _ (by omega) (by omega)).mono ?_; rintro r w3 ⟨rfl, hb3⟩))
        all_goals
          go_split_ands
          clear c0 c1 c2 c3 c4 v0 R B
          go_wp2_with fail
          go_ret
          exact ⟨ret_int (by rw [← HCH.out, HE.out]), by assumption⟩
      · rw [if_neg hbig] at HE
        have d1 : decide (4000 < (s.size : Int) + (i - o)) = false := by simp [hbig]
        clear hbig
        go_region_held3 (fun v => v.cell? ⟨w.heap.size, 0, none⟩ = some (.pointer p) ∧ v.cell? ⟨w.heap.size + 1, 0, none⟩ = some (.int .i64 k) ∧ v.cell? ⟨w.heap.size + 1, 1, none⟩ = some (.int .i64 o) ∧ v.cell? ⟨w.heap.size + 1, 2, none⟩ = some (.int .i64 i) ∧ v.cell? ⟨w.heap.size + 1, 3, none⟩ = some (.int .i64 t) ∧ Rp.Rep v p s.data.toList ∧ Below w.heap.size w v)
          (first
            | (refine ⟨?_, ?_, ?_, ?_, ?_, ?_, ?_⟩ <;> with_reducible (first | (refine Rp.cell_dr ?_; assumption) | (refine Rp.Rep.dr ?_; assumption) | (refine Rp.below_dr ?_; assumption)))
            | (go_split_ands; refine ⟨?_, ?_, ?_, ?_, ?_, ?_, ?_⟩ <;> with_reducible (first | (refine Rp.cell_up hb2 ?_; assumption) | (refine Rp.Rep.up hb2 ?_; assumption) | (refine Rp.below_up ?_ hb2; assumption)))
            | (go_split_ands; refine ⟨?_, ?_, ?_, ?_, ?_, ?_, ?_⟩ <;> with_reducible (first | (refine Rp.cell_up hb3 ?_; assumption) | (refine Rp.Rep.up hb3 ?_; assumption) | (refine Rp.below_up ?_ hb3; assumption))))
          (first
            | (go_at_call 14; go_split_ands; refine (len_s p s _ (by assumption)).mono ?_; rintro r w2 ⟨rfl, hb2⟩)
            | (go_at_call 30; refine (grown_walk _ _ _ _ _ (by omega) (by omega)).mono ?_; rintro r w3 ⟨rfl, hb3⟩))
        all_goals
          go_split_ands
          clear c0 c1 c2 c3 c4 v0 R B
          go_wp2_with fail
          go_ret
          exact ⟨ret_int (by rw [← HCH.out, HE.out]), by assumption⟩
open Go.RowKit
open Rp (Tr)
/-- a rope in a variable that may be written -/
structure Ed.Box (c : Nat) (p : Option Addr) (l : List UInt8) (v : World) : Prop where
  cell : v.cell? ⟨c, 0, none⟩ = some (.pointer p)
  rep : Rp.Rep v p l
  fz : v.frozen? ⟨c, 0, none⟩ = false
theorem Ed.Box.up {v v' : World} {c : Nat} {p : Option Addr} {l : List UInt8} (h : Ed.Box c p l v) (hb : Below v.heap.size v v') : Ed.Box c p l v' := ⟨Rp.cell_up hb h.cell, h.rep.up hb, Rp.frz_up hb h.cell h.fz⟩
theorem Ed.box_new {v : World} {p : Option Addr} {l : List UInt8} (h : Rp.Rep v p l) : Ed.Box v.heap.size p l (v.alloc (.cells #[.pointer p] 27)) := ⟨by simp [go_sem], h.al _, by simp [go_sem]⟩
theorem Ed.Box.set {v : World} {c : Nat} {p q : Option Addr} {l m : List UInt8} (h : Ed.Box c p l v) (hq : Rp.Rep v q m) : Ed.Box c q m (v.setCell ⟨c, 0, none⟩ (.pointer q)) :=
  ⟨World.cell?_setCell_same _ _ _ h.cell, hq.set h.cell _, by have := h.fz; simp [go_sem, this]⟩
theorem Ed.frz_set {v : World} {c d j k : Nat} {u : Value} (h : v.frozen? ⟨d, j, none⟩ = false) : (v.setCell ⟨c, k, none⟩ u).frozen? ⟨d, j, none⟩ = false := by simp [go_sem, h]
theorem Ed.Box.set' {v : World} {c d : Nat} {p q : Option Addr} {l : List UInt8} (h : Ed.Box d p l v) (hc : v.cell? ⟨c, 0, none⟩ = some (.pointer q)) (u : Value) (hn : c ≠ d) : Ed.Box d p l (v.setCell ⟨c, 0, none⟩ u) :=
  ⟨Rp.cell_set h.cell hn, h.rep.set hc u, Ed.frz_set h.fz⟩
theorem Ed.Box.pass {w w' : World} {c : Nat} (hg : w.grownBy w' (some c)) {a : Option Addr} {n cap : Nat} (hr : w.cell? ⟨c, 4, none⟩ = some (.slice a n cap)) {v : Nat} (hv : v ≠ c) {p : Option Addr} {l : List UInt8} (h : Ed.Box v p l w) : Ed.Box v p l w' :=
  ⟨hg.cell h.cell (by simpa using hv), Ed.rep_pass hg hr h.rep, by
    rw [World.frozen?_of_block (w := w) (hg.block v (World.block_lt_of_cell? w _ h.cell) (by simpa using hv))]; exact h.fz⟩
theorem Ed.Crs.set {w : World} {c k : Nat} {o i t : Int} {a : Option Addr} {n cap : Nat} (h : Ed.Crs w c k o i t a n cap) {d : Nat} (hn : d ≠ c) (u : Value) : Ed.Crs (w.setCell ⟨d, 0, none⟩ u) c k o i t a n cap :=
  ⟨Rp.cell_set h.c0 hn, Rp.cell_set h.c1 hn, Rp.cell_set h.c2 hn, Rp.cell_set h.c3 hn, Rp.cell_set h.c4 hn, Ed.frz_set h.z0, Ed.frz_set h.z1, Ed.frz_set h.z2, Ed.frz_set h.z3⟩
/-- what is known of the sums of the first k edits of edits that may be -/
structure Ed.Sm (n : Nat) (es : List Ed.E) (k : Nat) (o i t : Int) : Prop where
  gr : i - o = Ed.grows (es.take k)
  may : Ed.May n t (es.drop k)
  o0 : 0 ≤ o
  ot : o ≤ t
  tn : t ≤ n
  i0 : 0 ≤ i
  ik : i ≤ k * 100000
theorem Ed.sm_new {n : Nat} {es : List Ed.E} (h : Ed.May n 0 es) : Ed.Sm n es 0 0 0 0 := ⟨rfl, h, by omega, by omega, by omega, by omega, by omega⟩
theorem Ed.Sm.head {n : Nat} {es : List Ed.E} {k : Nat} {o i t : Int} (h : Ed.Sm n es k o i t) (hk : k < es.length) : t ≤ es[k].pos ∧ 0 ≤ es[k].del ∧ es[k].pos + es[k].del ≤ n := by
  have m := h.may
  rw [Ed.drop_at hk] at m
  exact ⟨m.1, m.2.1, m.2.2.1⟩
theorem Ed.Sm.on {n : Nat} {es : List Ed.E} {k : Nat} {o i t : Int} (h : Ed.Sm n es k o i t) (hk : k < es.length) (hz : es[k].ins.size ≤ 100000) : Ed.Sm n es (k + 1) (o + es[k].del) (i + es[k].ins.size) (es[k].pos + es[k].del) := by
  obtain ⟨h1, h2, h3⟩ := h.head hk
  have m := h.may
  rw [Ed.drop_at hk] at m
  refine ⟨?_, m.2.2.2, ?_, ?_, h3, ?_, ?_⟩
  · rw [Ed.grows_take hk, ← h.gr]; omega
  all_goals have := h.o0; have := h.ot; have := h.i0; have := h.ik; omega
theorem Ed.Sm.fin {n : Nat} {es : List Ed.E} {k : Nat} {o i t : Int} (h : Ed.Sm n es k o i t) (hk : ¬ k < es.length) : i - o = Ed.grows es := by
  rw [h.gr, List.take_of_length_le (by omega)]
def Ed.GInv (w : World) (a : Option Addr) (es : List Ed.E) (cap n g : Nat) (wr : World) : Prop :=
  ∃ (k : Nat) (o i t : Int), g + k = es.length ∧ Ed.Crs wr w.heap.size k o i t a es.length cap ∧ Ed.Sm n es k o i t ∧ Below w.heap.size w wr
set_option maxRecDepth 100000 in
set_option maxHeartbeats 1000000 in
theorem grow_any (a : Option Addr) (es : List Ed.E) (cap n : Nat) (w : World) (hR : Ed.Row w a es) (hW : Ed.Wf es) (hM : Ed.May n 0 es) (hn : n ≤ 1000000) :
    Calls Try.prog 16 #[.slice a es.length cap] w (Rp.IPost w (Ed.grows es)) := by
  have HR := Lib.hid hR; clear hR
  have HW := Lib.hid hW; clear hW
  have HM := Lib.hid hM; clear hM
  go_enter Try.func16, Try.ntmps16
  go_wp2_with fail
  have C := Ed.crs_new w a es.length cap
  have B := Rp.below_al w (.cells #[.int .i64 0, .int .i64 0, .int .i64 0, .int .i64 0, .slice a es.length cap] 57)
  generalize w.alloc (.cells #[.int .i64 0, .int .i64 0, .int .i64 0, .int .i64 0, .slice a es.length cap] 57) = W at *
  go_loopg [] es.length (fun g wr => Ed.GInv w a es cap n g wr)
  case atStart => exact ⟨0, 0, 0, 0, by omega, C, Ed.sm_new HM.out, B⟩
  case round =>
    clear C B
    obtain ⟨k, o, i, t, hgk, C, S, B⟩ := hrel
    have hl := HW.out.len
    have s1 := S.o0; have s2 := S.ot; have s3 := S.tn; have s4 := S.i0; have s5 := S.ik
    by_cases hk : k < es.length
    · obtain ⟨x, rfl, hE⟩ := HR.out k hk
      replace hE := hE.up B
      obtain ⟨z1, z2, z3, z4, z5⟩ := HW.out.each es[k] (List.getElem_mem hk)
      have S' := S.on hk z1
      obtain ⟨y1, y2, y3⟩ := S.head hk
      have HS := Lib.hid S'
      clear S S'
      go_wp2_with fail
      refine (more_yes C hk).mono ?_
      rintro r w1 ⟨rfl, hb1⟩
      replace C := C.up hb1
      replace hE := hE.up hb1
      replace B := Rp.below_up B hb1
      clear hb1
      generalize es[k] = e at *
      go_wp2_with fail
      refine (pass_walk w.heap.size k es.length cap o i t x e w1 C hk hE (by omega) (by omega) (by omega) (by omega) (by omega) (by omega) (by omega)).mono ?_
      rintro r w3 ⟨rfl, C3, hg⟩
      have B3 := B.grown hg B.size (fun k hk => by injection hk with hk; omega)
      clear C B hE hg
      go_wp2_with fail
      go_roundg (gk - 1)
      case measure => omega
      exact ⟨k + 1, _, _, _, by omega, C3, HS.out, B3⟩
    · have HE := Lib.hid (S.fin hk)
      clear S
      go_wp2_with fail
      refine (more_no C hk).mono ?_
      rintro r w1 ⟨rfl, hb1⟩
      replace C := C.up hb1
      replace B := Rp.below_up B hb1
      obtain ⟨c0, c1, c2, c3, c4, _, _, _, _⟩ := C
      go_wp2_with fail
      refine (grown_walk _ _ _ _ _ (by omega) (by omega)).mono ?_
      rintro r w2 ⟨rfl, hb2⟩
      go_wp2_with fail
      go_ret
      exact ⟨ret_int HE.out, Rp.below_up B hb2⟩
end Go.Proofs.Ytigibeioapkgiaa
