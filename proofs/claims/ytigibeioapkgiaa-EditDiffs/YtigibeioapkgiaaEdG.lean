/- What 'back' of a course answers, walked. What 'Back' answers, walked; rows of edits that grow by append. -/
import Derived.Test.YtigibeioapkgiaaEdD
import Derived.Deep.AppendLies
namespace Go.Proofs.Ytigibeioapkgiaa
set_option linter.unusedVariables false
set_option linter.unusedSimpArgs false
open Go.RowKit
open Rp (Tr)
/-- an edit is answered -/
def Ed.EPost (w : World) (e : Ed.E) (r : Ending) (w' : World) : Prop := r = .returned (.agg #[.int .i64 e.pos, .int .i64 e.del, .string e.ins]) ∧ Below w.heap.size w w'
set_option maxRecDepth 100000 in
set_option maxHeartbeats 1000000 in
theorem back_walk (c k n cap : Nat) (o i t : Int) (x : Addr) (e : Ed.E) (p : Option Addr) (s : ByteArray) (w : World) (hc : Ed.Crs w c k o i t (some x) n cap) (hk : k < n) (he : Ed.At w (x.add (k * 3)) e) (hp : Rp.Rep w p s.data.toList) (hs : s.size ≤ 1000000) (h1 : 0 ≤ e.pos) (h2 : 0 ≤ e.del) (h3 : e.pos + e.del ≤ s.size) (h4 : 0 ≤ o) (h5 : o ≤ 1000000) (h6 : 0 ≤ i) (h7 : i ≤ 1000000000) :
    Calls Try.prog 38 #[.pointer (some ⟨c, 0, none⟩), .agg #[.pointer p]] w (Ed.EPost w ⟨e.pos + (i - o), e.ins.size, s.extract e.pos.toNat (e.pos + e.del).toNat⟩) := by
  go_enter Try.func38, Try.ntmps38
  go_wp2_with fail
  have B : Below w.heap.size w ((w.alloc (.cells #[.pointer p] 27)).alloc (.cells #[.int .i64 0, .int .i64 0, .string ⟨#[]⟩] 46)) := Rp.below_al2 _ _ _
  have V := (Rp.var_new hp).up (Rp.below_al _ (.cells #[.int .i64 0, .int .i64 0, .string ⟨#[]⟩] 46))
  have eN : (w.alloc (.cells #[.pointer p] 27)).heap.size = w.heap.size + 1 := by simp [go_sem]
  obtain ⟨r0, r1, r2, f0, f1, f2⟩ : (let W := (w.alloc (.cells #[.pointer p] 27)).alloc (.cells #[.int .i64 0, .int .i64 0, .string ⟨#[]⟩] 46); W.cell? ⟨w.heap.size + 1, 0, none⟩ = some (.int .i64 0) ∧ W.cell? ⟨w.heap.size + 1, 1, none⟩ = some (.int .i64 0) ∧ W.cell? ⟨w.heap.size + 1, 2, none⟩ = some (.string ⟨#[]⟩) ∧ W.frozen? ⟨w.heap.size + 1, 0, none⟩ = false ∧ W.frozen? ⟨w.heap.size + 1, 1, none⟩ = false ∧ W.frozen? ⟨w.heap.size + 1, 2, none⟩ = false) := by
    rw [← eN]
    refine ⟨by simp [go_sem], by simp [go_sem], by simp [go_sem], by simp [go_sem], by simp [go_sem], by simp [go_sem]⟩
  clear eN
  have C := hc.up B
  have E := he.up B
  have ltc : c < w.heap.size := hc.lt
  clear hc he hp
  generalize (w.alloc (.cells #[.pointer p] 27)).alloc (.cells #[.int .i64 0, .int .i64 0, .string ⟨#[]⟩] 46) = W at *
  refine (edit_walk c k n cap x e _ C.c0 C.c4 hk E).mono ?_
  rintro r w1 ⟨rfl, hb1⟩
  have hb2 := Rp.below_up hb1 (Rp.below_al w1 (.cells #[.int .i64 e.pos, .int .i64 e.del, .string e.ins] 46))
  have lN : w.heap.size + 1 < w1.heap.size := World.block_lt_of_cell? w1 _ (Rp.cell_up hb1 r0)
  replace f0 := Rp.frz_up hb2 r0 f0
  replace f1 := Rp.frz_up hb2 r1 f1
  replace f2 := Rp.frz_up hb2 r2 f2
  replace r0 := Rp.cell_up hb2 r0
  replace r1 := Rp.cell_up hb2 r1
  replace r2 := Rp.cell_up hb2 r2
  replace C := C.up hb2
  replace V := V.up hb2
  replace B := Rp.below_up B hb2
  obtain ⟨n0, n1, n2⟩ := Ed.at_new w1 e
  simp only [Nat.zero_add] at n1 n2
  have v0 := V.cell
  clear hb1 hb2 E
  go_wp2_with fail
  generalize w1.alloc (.cells #[.int .i64 e.pos, .int .i64 e.del, .string e.ins] 46) = U at *
  generalize w1.heap.size = N at *
  obtain ⟨F, hF⟩ := Int.eq_ofNat_of_zero_le h1
  obtain ⟨G, hG⟩ := Int.eq_ofNat_of_zero_le (show 0 ≤ e.pos + e.del by omega)
  have SL := slice_s p s F G U V.rep hs (by omega) (by omega)
  rw [← hF, ← hG] at SL
  have eF : F = e.pos.toNat := by omega
  have eG : G = (e.pos + e.del).toNat := by omega
  rw [eF, eG] at SL
  clear eF eG hF hG F G
  refine SL.mono ?_
  rintro r w2 ⟨rfl, hb2⟩
  replace f0 := Rp.frz_up hb2 r0 f0
  replace f1 := Rp.frz_up hb2 r1 f1
  replace f2 := Rp.frz_up hb2 r2 f2
  replace r0 := Rp.cell_up hb2 r0
  replace r1 := Rp.cell_up hb2 r1
  replace r2 := Rp.cell_up hb2 r2
  replace C := C.up hb2
  replace B := Rp.below_up B hb2
  replace n0 := Rp.cell_up hb2 n0
  replace n2 := Rp.cell_up hb2 n2
  clear hb2 n1 v0 V SL
  obtain ⟨c0, c1, c2, c3, c4, _, _, _, _⟩ := C
  go_wp2_with fail
  have hw : IntKind.i64.wrap (e.pos + (i - o)) = e.pos + (i - o) := IntWalk.i64_in _ (by omega)
  have nR1 : w.heap.size + 1 ≠ N := by omega
  have nR2 : w.heap.size + 1 ≠ c := by omega
  have mR : w.heap.size ≤ w.heap.size + 1 := by omega
  generalize s.extract e.pos.toNat (e.pos + e.del).toNat = u at *
  generalize w.heap.size + 1 = R at *
  go_region_held3 (fun v => v.cell? ⟨N, 0, none⟩ = some (.int .i64 e.pos) ∧ v.cell? ⟨N, 2, none⟩ = some (.string e.ins) ∧ v.cell? ⟨c, 0, none⟩ = some (.int .i64 k) ∧ v.cell? ⟨c, 1, none⟩ = some (.int .i64 o) ∧ v.cell? ⟨c, 2, none⟩ = some (.int .i64 i) ∧ v.cell? ⟨c, 3, none⟩ = some (.int .i64 t))
    (first
      | (refine ⟨?_, ?_, ?_, ?_, ?_, ?_⟩ <;> with_reducible (first | (refine Rp.cell_dr ?_; assumption)))
      | (go_split_ands; refine ⟨?_, ?_, ?_, ?_, ?_, ?_⟩ <;> with_reducible (first | (refine Rp.cell_up hb3 ?_; assumption)))
      | (go_split_ands; refine ⟨?_, ?_, ?_, ?_, ?_, ?_⟩ <;> with_reducible (first | (refine Rp.cell_set (Rp.cell_set (Rp.cell_set ?_ ?_) ?_) ?_ <;> assumption))))
    (first
      | (go_at_call 30; refine (grown_walk _ _ _ _ _ (by omega) (by omega)).mono ?_; rintro r w3 ⟨rfl, hb3⟩; have r0' := Rp.cell_up hb3 (Rp.cell_dr r0); have r1' := Rp.cell_up hb3 (Rp.cell_dr r1); have r2' := Rp.cell_up hb3 (Rp.cell_dr r2); have f0' := Rp.frz_up hb3 (Rp.cell_dr r0) (Rp.frz_dr f0); have f1' := Rp.frz_up hb3 (Rp.cell_dr r1) (Rp.frz_dr f1); have f2' := Rp.frz_up hb3 (Rp.cell_dr r2) (Rp.frz_dr f2)))
  all_goals
    rename_i hH
    clear hH
    go_wp2_with fail
    exact bodyPost_ret (v := .agg #[.int .i64 (e.pos + (i - o)), .int .i64 e.ins.size, .string u]) (by simp [results, Try.results38, go_sem, r0', r1', r2']) rfl ⟨rfl, (((Rp.below_up B.drew hb3).setCell mR _).setCell mR _).setCell mR _⟩
open Go.RowKit
open Rp (Tr)
/-- the cells of a row of edits -/
def Ed.cells (es : List Ed.E) : List Value := es.flatMap fun e => [.int .i64 e.pos, .int .i64 e.del, .string e.ins]
theorem Ed.cells_append (a b : List Ed.E) : Ed.cells (a ++ b) = Ed.cells a ++ Ed.cells b := by simp [Ed.cells]
theorem Ed.cells_at : ∀ (es : List Ed.E) (k : Nat) (h : k < es.length), (Ed.cells es)[k * 3]? = some (.int .i64 es[k].pos) ∧ (Ed.cells es)[k * 3 + 1]? = some (.int .i64 es[k].del) ∧ (Ed.cells es)[k * 3 + 2]? = some (.string es[k].ins)
  | e :: r, 0, h => ⟨rfl, rfl, rfl⟩
  | e :: r, k + 1, h => by
    have ih := Ed.cells_at r k (by simpa using h)
    have e0 : Ed.cells (e :: r) = [.int .i64 e.pos, .int .i64 e.del, .string e.ins] ++ Ed.cells r := rfl
    rw [e0]
    have a0 : (k + 1) * 3 = 3 + k * 3 := by omega
    have a1 : (k + 1) * 3 + 1 = 3 + (k * 3 + 1) := by omega
    have a2 : (k + 1) * 3 + 2 = 3 + (k * 3 + 2) := by omega
    rw [a1, a2, a0, List.getElem?_append_right (by simp), List.getElem?_append_right (by simp), List.getElem?_append_right (by simp)]
    simpa using ih
/-- a row of edits of one's own -/
def Ed.Own (base : Nat) (v : Value) (es : List Ed.E) (w : World) : Prop := w.ownsRow base 46 3 v es.length (Ed.cells es) ∧ (es = [] → v = .slice none 0 0)
theorem Ed.own_nil (base : Nat) (w : World) : Ed.Own base (.slice none 0 0) [] w := ⟨World.ownsRow_nil _ _ _ _, fun _ => rfl⟩
theorem Ed.Own.up {base : Nat} {v : Value} {es : List Ed.E} {w w' : World} (h : Ed.Own base v es w) (hb : Below w.heap.size w w') : Ed.Own base v es w' := ⟨Rp.own_up h.1 hb, h.2⟩
theorem Ed.add_is (g j : Nat) : (⟨g, 0, none⟩ : Addr).add j = ⟨g, j, none⟩ := by unfold Addr.add; split <;> simp_all
theorem Ed.Own.str {base : Nat} {v : Value} {es : List Ed.E} {w : World} (h : Ed.Own base v es w) : ∀ g, v.ownBlock = some g → ∃ u, w.cell? ⟨g, 2, none⟩ = some (.string u) := by
  intro g hg
  by_cases he : es = []
  · rw [h.2 he] at hg; simp [Value.ownBlock] at hg
  · have hl : 0 < es.length := List.length_pos_iff.2 he
    have := h.1.cells hg 2 _ (Ed.cells_at es 0 hl).2.2
    rw [Ed.add_is] at this
    exact ⟨_, this⟩
theorem Ed.Own.ge {base : Nat} {v : Value} {es : List Ed.E} {w : World} (h : Ed.Own base v es w) : ∀ k, v.ownBlock = some k → base ≤ k := fun k hk => (h.1.lt k hk).1
theorem Ed.part_own {w w' : World} {row : Option Nat} (hg : w.grownBy w' row) (hr : ∀ g, row = some g → ∃ u, w.cell? ⟨g, 2, none⟩ = some (.string u)) {b : Nat} {t : Tr} (h : Rp.IsPart w b t) : Rp.IsPart w' b t := by
  have key : ∀ {b : Nat} {t : Tr} {p q : Option Addr}, Rp.Cells w b t p q → Rp.Cells w' b t p q := by
    intro b t p q h
    have hne : some b ≠ row := fun e => by
      obtain ⟨u, hu⟩ := hr b e.symm
      have := h.c2
      rw [hu] at this
      simp at this
    exact ⟨hg.cell h.c0 hne, hg.cell h.c1 hne, hg.cell h.c2 hne, hg.cell h.c3 hne, hg.cell h.c4 hne, hg.cell h.c5 hne, hg.cell h.c6 hne⟩
  induction t generalizing b with
  | leaf s => exact key h
  | node l r il ir => obtain ⟨x, y, hc', hl, hr⟩ := h; exact ⟨x, y, key hc', il hl, ir hr⟩
theorem Ed.rep_own {w w' : World} {row : Option Nat} (hg : w.grownBy w' row) (hr : ∀ g, row = some g → ∃ u, w.cell? ⟨g, 2, none⟩ = some (.string u)) {p : Option Addr} {l : List UInt8} (h : Rp.Rep w p l) : Rp.Rep w' p l := by
  rcases h with h | ⟨b, t, e, hp, g, ht⟩
  · exact .inl h
  · exact .inr ⟨b, t, e, Ed.part_own hg hr hp, g, ht⟩
theorem Ed.Crs.own {w w' : World} {row : Option Nat} (hg : w.grownBy w' row) (hr : ∀ g, row = some g → ∃ u, w.cell? ⟨g, 2, none⟩ = some (.string u)) {c k : Nat} {o i t : Int} {a : Option Addr} {n cap : Nat} (h : Ed.Crs w c k o i t a n cap) : Ed.Crs w' c k o i t a n cap := by
  have hne : some c ≠ row := fun e => by
    obtain ⟨u, hu⟩ := hr c e.symm
    have := h.c2
    rw [hu] at this
    simp at this
  have hf : ∀ j, w'.frozen? ⟨c, j, none⟩ = w.frozen? ⟨c, j, none⟩ := fun j => World.frozen?_of_block (w := w) (hg.block c h.lt hne)
  exact ⟨hg.cell h.c0 hne, hg.cell h.c1 hne, hg.cell h.c2 hne, hg.cell h.c3 hne, hg.cell h.c4 hne, by rw [hf]; exact h.z0, by rw [hf]; exact h.z1, by rw [hf]; exact h.z2, by rw [hf]; exact h.z3⟩
theorem Ed.Crs.ne {w : World} {c k : Nat} {o i t : Int} {a : Option Addr} {n cap : Nat} (h : Ed.Crs w c k o i t a n cap) {base : Nat} {v : Value} {es : List Ed.E} (ho : Ed.Own base v es w) : v.ownBlock ≠ some c := fun e => by
  obtain ⟨u, hu⟩ := ho.str c e
  have := h.c2
  rw [hu] at this
  simp at this
theorem Ed.Own.pass {w w' : World} {c : Nat} (hg : w.grownBy w' (some c)) {base : Nat} {v : Value} {es : List Ed.E} (h : Ed.Own base v es w) (hn : v.ownBlock ≠ some c) : Ed.Own base v es w' := ⟨h.1.kept hg (.inr hn), h.2⟩
/-- a row of edits of one's own, as a slice -/
theorem Ed.Own.slice {base : Nat} {v : Value} {es : List Ed.E} {w : World} (h : Ed.Own base v es w) : ∃ a cap, v = .slice a es.length cap ∧ Ed.Row w a es := by
  by_cases he : es = []
  · subst he
    rw [h.2 rfl]
    exact ⟨none, 0, rfl, fun i hi => by simp at hi⟩
  · have hl : 0 < es.length := List.length_pos_iff.2 he
    rcases h.1.2 with ⟨_, h0⟩ | ⟨g, cap, cur, rfl, _⟩
    · omega
    · refine ⟨some ⟨g, 0, none⟩, cap, rfl, fun i hi => ⟨⟨g, 0, none⟩, rfl, ?_⟩⟩
      have hc := Ed.cells_at es i hi
      have k0 := h.1.cells (g := g) rfl _ _ hc.1
      have k1 := h.1.cells (g := g) rfl _ _ hc.2.1
      have k2 := h.1.cells (g := g) rfl _ _ hc.2.2
      rw [Ed.add_is] at k0 k1 k2 ⊢
      exact ⟨k0, k1, k2⟩
theorem Ed.infoEdit : (Try.prog.info? 46).map (fun i => (i.zero, i.size, i.bytes)) = some (some (.agg #[.int .i64 0, .int .i64 0, .string ⟨#[]⟩]), 3, 32) := by kernel_rfl
/-- edits are answered, and a number -/
def Ed.BackPost (w : World) (es : List Ed.E) (n : Int) (e : Ending) (w' : World) : Prop := ∃ a cap, e = .returned (.tuple #[.slice a es.length cap, .int .i64 n]) ∧ Ed.Row w' a es ∧ Below w.heap.size w w'
set_option maxRecDepth 100000 in
set_option maxHeartbeats 1000000 in
theorem back_no (p : Option Addr) (s : ByteArray) (a : Option Addr) (es : List Ed.E) (cap : Nat) (w : World) (hp : Rp.Rep w p s.data.toList) (hs : s.size ≤ 1000000) (hR : Ed.Row w a es) (hW : Ed.Wf es) (h0 : ¬ Ed.chk s es 0 0 = 0) :
    Calls Try.prog 18 #[.agg #[.pointer p], .slice a es.length cap] w (Ed.BackPost w [] (Ed.chk s es 0 0)) := by
  have HR := Lib.hid hR; clear hR
  have HW := Lib.hid hW; clear hW
  have d1 : (Ed.chk s es 0 0 == 0) = false := beq_eq_false_iff_ne.2 h0
  clear h0
  go_enter Try.func18, Try.ntmps18
  go_wp2_with fail
  have B := Rp.below_al w (.cells #[.pointer p] 27)
  have hp' := hp.up B
  generalize w.alloc (.cells #[.pointer p] 27) = W at *
  refine (check_any p s a es cap _ hp' hs (HR.out.up B) HW.out).mono ?_
  rintro r w1 ⟨rfl, hb1⟩
  replace B := Rp.below_up B hb1
  generalize Ed.chk s es 0 0 = y at *
  go_wp2_with fail
  exact bodyPost_ret (v := .tuple #[.slice none 0 0, .int .i64 y]) (by simp [results, Try.results18, go_sem]) rfl ⟨none, 0, rfl, fun i hi => by simp at hi, B⟩
def Ed.KInv (w : World) (p : Option Addr) (s : ByteArray) (a : Option Addr) (es : List Ed.E) (cap G g : Nat) (v : Value) (wr : World) : Prop :=
  ∃ (k : Nat) (o i t : Int), g + k = es.length ∧ Ed.Crs wr G k o i t a es.length cap ∧ Ed.Sm s.size es k o i t ∧ Rp.Var w.heap.size p s.data.toList wr ∧ Ed.Own (G + 1) v ((Ed.bk s 0 es).take k) wr ∧ Below w.heap.size w wr
theorem Ed.bk_take (s : ByteArray) (es : List Ed.E) (k : Nat) (h : k < es.length) : (Ed.bk s 0 es).take (k + 1) = (Ed.bk s 0 es).take k ++ [⟨es[k].pos + Ed.grows (es.take k), es[k].ins.size, s.extract es[k].pos.toNat (es[k].pos + es[k].del).toNat⟩] := by
  have hl := Ed.bk_len s es 0
  rw [Ed.take_at (by omega), Ed.bk_at s es 0 k h, Int.zero_add]
set_option maxRecDepth 100000 in
set_option maxHeartbeats 1000000 in
theorem back_yes (p : Option Addr) (s : ByteArray) (a : Option Addr) (es : List Ed.E) (cap : Nat) (w : World) (hp : Rp.Rep w p s.data.toList) (hs : s.size ≤ 1000000) (hR : Ed.Row w a es) (hW : Ed.Wf es) (h0 : Ed.chk s es 0 0 = 0) :
    Calls Try.prog 18 #[.agg #[.pointer p], .slice a es.length cap] w (Ed.BackPost w (Ed.bk s 0 es) 0) := by
  have HR := Lib.hid hR; clear hR
  have HW := Lib.hid hW; clear hW
  obtain ⟨hM, _, _⟩ := Ed.chk_zero h0
  have HM := Lib.hid hM; clear hM
  go_enter Try.func18, Try.ntmps18
  go_wp2_with fail
  have B := Rp.below_al w (.cells #[.pointer p] 27)
  have V := Rp.var_new hp
  generalize w.alloc (.cells #[.pointer p] 27) = W at *
  have CK := check_any p s a es cap _ V.rep hs (HR.out.up B) HW.out
  rw [h0] at CK
  refine CK.mono ?_
  rintro r w1 ⟨rfl, hb1⟩
  have hG : w.heap.size < w1.heap.size := World.block_lt_of_cell? w1 _ (V.up hb1).cell
  replace hb1 := Rp.below_up hb1 (Rp.below_al w1 (.cells #[.int .i64 0, .int .i64 0, .int .i64 0, .int .i64 0, .slice a es.length cap] 57))
  replace B := Rp.below_up B hb1
  replace V := V.up hb1
  have C := Ed.crs_new w1 a es.length cap
  clear hb1 CK hp h0
  go_wp2_with fail
  generalize w1.alloc (.cells #[.int .i64 0, .int .i64 0, .int .i64 0, .int .i64 0, .slice a es.length cap] 57) = W1 at *
  generalize w1.heap.size = G at *
  obtain ⟨iE, hiE⟩ : ∃ i, Try.prog.info? 46 = some i := by
    have := Ed.infoEdit
    cases h : Try.prog.info? 46 with
    | none => rw [h] at this; simp at this
    | some i => exact ⟨i, rfl⟩
  have hz := Ed.infoEdit
  rw [hiE] at hz
  simp at hz
  obtain ⟨hz0, hz1, hz2⟩ := hz
  go_loopg [7] es.length (fun g v wr => Ed.KInv w p s a es cap G g v wr)
  case atStart => exact ⟨0, 0, 0, 0, by omega, C, Ed.sm_new HM.out, V, Ed.own_nil _ _, B⟩
  case round =>
    clear C V B
    obtain ⟨k, o, i, t, hgk, C, S, V, O, B⟩ := hrel
    have hl := HW.out.len
    have s1 := S.o0; have s2 := S.ot; have s3 := S.tn; have s4 := S.i0; have s5 := S.ik
    by_cases hk : k < es.length
    · obtain ⟨x, rfl, hE⟩ := HR.out k hk
      have HE0 := Lib.hid hE
      replace hE := hE.up B
      obtain ⟨z1, z2, z3, z4, z5⟩ := HW.out.each es[k] (List.getElem_mem hk)
      have S' := S.on hk z1
      obtain ⟨y1, y2, y3⟩ := S.head hk
      have HS := Lib.hid S'
      have HT := Lib.hid (Ed.bk_take s es k hk)
      rw [← S.gr] at HT
      have hbl : ((Ed.bk s 0 es).take k).length = k := by rw [List.length_take, Ed.bk_len]; omega
      clear S S'
      generalize es[k] = e at *
      go_wp2_with fail
      refine (more_yes C hk).mono ?_
      rintro r w2 ⟨rfl, hb2⟩
      replace C := C.up hb2
      replace V := V.up hb2
      replace O := O.up hb2
      replace hE := hE.up hb2
      replace B := Rp.below_up B hb2
      have v0 := V.cell
      clear hb2
      go_wp2_with fail
      refine (back_walk G k es.length cap o i t x e p s w2 C hk hE V.rep hs (by omega) y2 y3 s1 (by omega) s4 (by omega)).mono ?_
      rintro r w3 ⟨rfl, hb3⟩
      obtain ⟨b, hb⟩ : ∃ b : Ed.E, b = ⟨e.pos + (i - o), e.ins.size, s.extract e.pos.toNat (e.pos + e.del).toNat⟩ := ⟨_, rfl⟩
      rw [← hb] at HT ⊢
      have HB := Lib.hid hb; clear hb
      replace hb3 := Rp.below_up hb3 (Rp.below_al w3 (.cells #[.int .i64 b.pos, .int .i64 b.del, .string b.ins] 46))
      replace C := C.up hb3
      replace V := V.up hb3
      replace O := O.up hb3
      replace B := Rp.below_up B hb3
      clear hE v0 hb3
      have O1 := O.1
      rw [hbl] at O1
      have hbs : G + 1 ≤ (w3.alloc (.cells #[.int .i64 b.pos, .int .i64 b.del, .string b.ins] 46)).heap.size := C.lt
      have nw : ∀ j u, [Value.int .i64 b.pos, Value.int .i64 b.del, Value.string b.ins][j]? = some u → (w3.alloc (.cells #[.int .i64 b.pos, .int .i64 b.del, .string b.ins] 46)).cell? ((⟨w3.heap.size, 0, none⟩ : Addr).add j) = some u := World.news_of_block (cs := #[.int .i64 b.pos, .int .i64 b.del, .string b.ins]) (t := 46) (fr := (0, 0)) (heap_alloc_new w3 _)
      go_wp2_with (first
        | (at_builtin; refine wpList_append_own _ rfl _ _ 22 rfl (G + 1) 46 iE _ 3 32 Try.underlying22 hiE hz0 hz1 hz2 rfl (by decide) _ _ _ rfl O1 ⟨w3.heap.size, 0, none⟩ 1 1 [.int .i64 b.pos, .int .i64 b.del, .string b.ins] rfl rfl nw (by simp [Value.oneCell']) (by unfold maxLen; omega) (by omega) hbs ?_; intro v7' w4 o7 g7 n7))
      have hg : (w3.alloc (.cells #[.int .i64 b.pos, .int .i64 b.del, .string b.ins] 46)).grownBy w4 u7.ownBlock := g7
      have C4 := C.own hg O.str
      have V4 : Rp.Var w.heap.size p s.data.toList w4 := ⟨hg.cell V.cell (fun e => by have := O.ge _ e.symm; simp only at this; omega), Ed.rep_own hg O.str V.rep⟩
      have B4 := B.grown hg B.size (fun k hk => by have := O.ge k hk; omega)
      have O4 : Ed.Own (G + 1) v7' ((Ed.bk s 0 es).take (k + 1)) w4 := by
        rw [HT.out]
        refine ⟨?_, fun h => by simp at h⟩
        rw [Ed.cells_append, List.length_append, hbl]
        exact o7
      clear g7 n7 hg o7 C V B O O1 nw hbs
      refine (pass_walk G k es.length cap o i t x e w4 C4 hk (HE0.out.up B4) (by omega) (by omega) (by omega) (by omega) (by omega) (by omega) (by omega)).mono ?_
      rintro r w5 ⟨rfl, C5, hg⟩
      have B5 := B4.grown hg B4.size (fun k hk => by injection hk with hk; omega)
      have V5 := Ed.var_pass hg C4.c4 (by omega) V4
      have O5 := O4.pass hg (C4.ne O4)
      clear C4 V4 B4 O4 hg
      go_wp2_with fail
      go_roundg (gk - 1)
      case measure => omega
      exact ⟨k + 1, _, _, _, by omega, C5, HS.out, V5, O5, B5⟩
    · have hbl : (Ed.bk s 0 es).take k = Ed.bk s 0 es := List.take_of_length_le (by rw [Ed.bk_len]; omega)
      rw [hbl] at O
      clear S hbl
      go_wp2_with fail
      refine (more_no C hk).mono ?_
      rintro r w2 ⟨rfl, hb2⟩
      obtain ⟨a', cap', e1, R⟩ := (O.up hb2).slice
      have B2 := Rp.below_up B hb2
      clear O C V B hb2
      subst e1
      go_wp2_with fail
      exact bodyPost_ret (v := .tuple #[.slice a' (Ed.bk s 0 es).length cap', .int .i64 0]) (by simp [results, Try.results18, go_sem]) rfl ⟨a', cap', rfl, R, B2⟩
end Go.Proofs.Ytigibeioapkgiaa
