/- Rows of ropes and of texts that a law keeps. -/
import Derived.Test.YtigibeioapkgiaaRpX
import Derived.Laws.AppendOwn
namespace Go.Proofs.Ytigibeioapkgiaa
set_option linter.unusedVariables false
set_option linter.unusedSimpArgs false
open Go.RowKit
open Rp (Tr)
theorem Rp.grown_of_below {w w' : World} (h : Below w.heap.size w w') : w.grownBy w' none := ⟨h.os, h.tape, h.output, h.size, fun k hk _ => h.block k hk⟩
theorem Rp.own_up {w w' : World} {base : Nat} {e : TypeId} {size : Nat} {v : Value} {n : Nat} {xs : List Value} (h : w.ownsRow base e size v n xs) (hb : Below w.heap.size w w') : w'.ownsRow base e size v n xs := by
  refine h.kept (Rp.grown_of_below hb) ?_
  cases v.ownBlock
  · exact .inl rfl
  · exact .inr (by simp)
theorem Rp.IsPart.grown {w w' : World} {row : Option Nat} (hg : w.grownBy w' row) (hr : ∀ g, row = some g → ∀ x : Int, w.cell? ⟨g, 0, none⟩ ≠ some (.int .i64 x)) {b : Nat} {t : Tr} (h : Rp.IsPart w b t) : Rp.IsPart w' b t := by
  have key : ∀ {b : Nat} {t : Tr} {p q : Option Addr}, Rp.Cells w b t p q → Rp.Cells w' b t p q := by
    intro b t p q h
    have hne : some b ≠ row := fun e => hr b e.symm _ h.c0
    exact ⟨hg.cell h.c0 hne, hg.cell h.c1 hne, hg.cell h.c2 hne, hg.cell h.c3 hne, hg.cell h.c4 hne, hg.cell h.c5 hne, hg.cell h.c6 hne⟩
  induction t generalizing b with
  | leaf s => exact key h
  | node l r il ir => obtain ⟨x, y, hc', hl, hr⟩ := h; exact ⟨x, y, key hc', il hl, ir hr⟩
theorem Rp.Rep.grown {w w' : World} {row : Option Nat} (hg : w.grownBy w' row) (hr : ∀ g, row = some g → ∀ x : Int, w.cell? ⟨g, 0, Option.none⟩ ≠ some (.int .i64 x)) {p : Option Addr} {l : List UInt8} (h : Rp.Rep w p l) : Rp.Rep w' p l := by
  rcases h with h | ⟨b, t, e, hp, g, ht⟩
  · exact .inl h
  · exact .inr ⟨b, t, e, hp.grown hg hr, g, ht⟩
theorem Rp.own_cell {w : World} {base : Nat} {e : TypeId} {v : Value} {n : Nat} {xs : List Value} (h : w.ownsRow base e 1 v n xs) (hn : 0 < n) : ∃ g cap, v = .slice (some ⟨g, 0, none⟩) n cap ∧ base ≤ g ∧ g < w.heap.size ∧ n ≤ cap ∧ ∀ j u, xs[j]? = some u → w.cell? ⟨g, j, none⟩ = some u := by
  have h' := h
  rcases h'.2 with ⟨_, h0⟩ | ⟨g, cap, cur, hv, hb, hh, hc, _, _, _⟩
  · omega
  · have hlt := h.lt g (by rw [hv]; rfl)
    refine ⟨g, cap, hv, hb, hlt.2, hc, fun j u hu => ?_⟩
    have := h.cells (g := g) (by rw [hv]; rfl) j u hu
    unfold Addr.add at this
    split at this
    · rename_i hj; subst hj; exact this
    · simpa using this
theorem Rp.own_ne {w : World} {B B' size size' n n' : Nat} {e e' : TypeId} {v v' : Value} {xs xs' : List Value} (h : w.ownsRow B e size v n xs) (h' : w.ownsRow B' e' size' v' n' xs') (hn : 0 < n) (hn' : 0 < n') (he : e ≠ e') : v.ownBlock ≠ v'.ownBlock := by
  rcases h.2 with ⟨_, h0⟩ | ⟨g, cap, cur, rfl, _, hh, _⟩
  · omega
  rcases h'.2 with ⟨_, h0⟩ | ⟨g', cap', cur', rfl, _, hh', _⟩
  · omega
  intro e1
  simp [Value.ownBlock] at e1
  subst e1
  rw [hh] at hh'
  simp at hh'
  exact he hh'.2
theorem Rp.own_int {w : World} {base : Nat} {e : TypeId} {v : Value} {n : Nat} {xs : List Value} (h : w.ownsRow base e 1 v n xs) (hn : 0 < n) (hx : ∀ u, xs[0]? = some u → ∀ x : Int, u ≠ .int .i64 x) : ∀ g, v.ownBlock = some g → ∀ x : Int, w.cell? ⟨g, 0, none⟩ ≠ some (.int .i64 x) := by
  intro g hg x hc
  obtain ⟨g', cap, hv, _, _, _, hcell⟩ := Rp.own_cell h hn
  rw [hv] at hg
  simp [Value.ownBlock] at hg
  subst hg
  have hl : 0 < xs.length := by have := h.1; omega
  have h0 := hcell 0 xs[0] (by simp)
  rw [hc] at h0
  exact hx xs[0] (by simp) x (by injection h0 with h0; exact h0.symm)
/-- what is kept between two rounds: the ropes in v7, their texts in v8 (m of them), a variable for a rope at G -/
structure Rp.Keeps (w : World) (G : Nat) (v7 v8 : Value) (ps : List (Option Addr)) (ts : List ByteArray) (m : Nat) (wr : World) : Prop where
  len : ps.length = ts.length
  pos : 0 < m
  mle : m ≤ ps.length
  row7 : wr.ownsRow w.heap.size 27 1 v7 ps.length (ps.map Value.pointer)
  row8 : wr.ownsRow w.heap.size 9 1 v8 m ((ts.take m).map Value.string)
  reps : ∀ j, j < ps.length → Rp.Rep wr (ps.getD j none) (ts.getD j ByteArray.empty).data.toList ∧ (ts.getD j ByteArray.empty).size ≤ 4000
  box : ∃ p, wr.heap[G]? = some (.cells #[.pointer p] 27 (0, 0))
  ne7 : v7.ownBlock ≠ some G
  ltG : G < wr.heap.size
  leG : w.heap.size ≤ G
  be : Below w.heap.size w wr
theorem Rp.Keeps.up {w : World} {G : Nat} {v7 v8 : Value} {ps : List (Option Addr)} {ts : List ByteArray} {m : Nat} {wr wr' : World} (h : Rp.Keeps w G v7 v8 ps ts m wr) (hb : Below wr.heap.size wr wr') : Rp.Keeps w G v7 v8 ps ts m wr' := by
  obtain ⟨p, hp⟩ := h.box
  exact ⟨h.len, h.pos, h.mle, Rp.own_up h.row7 hb, Rp.own_up h.row8 hb, fun j hj => ⟨(h.reps j hj).1.up hb, (h.reps j hj).2⟩, ⟨p, by rw [hb.block G h.ltG]; exact hp⟩, h.ne7, Nat.lt_of_lt_of_le h.ltG hb.size, h.leG, Rp.below_up h.be hb⟩
theorem Rp.Keeps.cellG {w : World} {G : Nat} {v7 v8 : Value} {ps : List (Option Addr)} {ts : List ByteArray} {m : Nat} {wr : World} (h : Rp.Keeps w G v7 v8 ps ts m wr) : ∃ p, wr.cell? ⟨G, 0, none⟩ = some (.pointer p) := by
  obtain ⟨p, hp⟩ := h.box
  exact ⟨p, by rw [Lib.cell_of_heap hp]; rfl⟩
theorem Rp.Keeps.frzG {w : World} {G : Nat} {v7 v8 : Value} {ps : List (Option Addr)} {ts : List ByteArray} {m : Nat} {wr : World} (h : Rp.Keeps w G v7 v8 ps ts m wr) : wr.frozen? ⟨G, 0, none⟩ = false := by
  obtain ⟨p, hp⟩ := h.box
  exact Lib.frozen_of_heap hp 0
theorem Rp.getD_last {A : Type} (l : List A) (x d : A) (j : Nat) : (l ++ [x]).getD j d = if j < l.length then l.getD j d else if j = l.length then x else d := by
  by_cases h : j < l.length
  · rw [if_pos h]; simp [List.getD_eq_getElem?_getD, List.getElem?_append_left h]
  · rw [if_neg h]
    by_cases h2 : j = l.length
    · rw [if_pos h2]; subst h2; simp
    · rw [if_neg h2, List.getD_eq_getElem?_getD, List.getElem?_append_right (by omega)]
      have : j - l.length ≠ 0 := by omega
      cases hj : j - l.length with
      | zero => omega
      | succ n => simp
/-- one more rope -/
theorem Rp.Keeps.push7 {w : World} {G : Nat} {v7 v8 v7' : Value} {ps : List (Option Addr)} {ts : List ByteArray} {w1 w2 : World} {p : Option Addr} {s : ByteArray}
    (h : Rp.Keeps w G v7 v8 ps ts ps.length w1) (hrep : Rp.Rep w1 p s.data.toList) (hs : s.size ≤ 4000)
    (o7 : w2.ownsRow w.heap.size 27 1 v7' (ps.length + 1) (ps.map Value.pointer ++ [.pointer p])) (g7 : w1.grownBy w2 v7.ownBlock) :
    Rp.Keeps w G v7' v8 (ps ++ [p]) (ts ++ [s]) ps.length w2 := by
  have hp := h.pos
  have hi := Rp.own_int h.row7 hp (by
    intro u hu x
    rw [List.getElem?_map] at hu
    cases h0 : ps[0]? with
    | none => rw [h0] at hu; simp at hu
    | some q => rw [h0] at hu; simp at hu; rw [← hu]; simp)
  have h78 : v8.ownBlock ≠ v7.ownBlock := Rp.own_ne h.row8 h.row7 hp hp (by decide)
  obtain ⟨q, hq⟩ := h.box
  have hbox : w2.heap[G]? = some (.cells #[.pointer q] 27 (0, 0)) := by
    rw [g7.block G h.ltG (fun e => h.ne7 e.symm)]; exact hq
  refine ⟨by simp [h.len], hp, by simp, by simpa using o7, ?_, ?_, ⟨q, hbox⟩, ?_, Nat.lt_of_lt_of_le h.ltG g7.size, h.leG, h.be.grown g7 h.be.size (fun k hk => (h.row7.lt k hk).1)⟩
  · have e : (ts ++ [s]).take ps.length = ts.take ps.length := List.take_append_of_le_length (Nat.le_of_eq h.len)
    rw [e]; exact h.row8.kept g7 (.inr h78)
  · intro j hj
    rw [Rp.getD_last, Rp.getD_last, ← h.len]
    by_cases h1 : j < ps.length
    · rw [if_pos h1, if_pos h1]; exact ⟨(h.reps j h1).1.grown g7 hi, (h.reps j h1).2⟩
    · have h2 : j = ps.length := by simp at hj; omega
      rw [if_neg h1, if_neg h1, if_pos h2, if_pos h2]; exact ⟨hrep.grown g7 hi, hs⟩
  · intro e
    rcases o7.2 with ⟨_, h0⟩ | ⟨g, cap, cur, rfl, _, hh, hc, _, hsz, _⟩
    · omega
    · simp [Value.ownBlock] at e
      subst e
      rw [hbox] at hh
      simp at hh
      rw [← hh] at hsz
      simp at hsz
      omega
/-- .. and its text -/
theorem Rp.Keeps.push8 {w : World} {G : Nat} {v7 v8 v8' : Value} {ps : List (Option Addr)} {ts : List ByteArray} {w1 w2 : World} {p : Option Addr} {s : ByteArray} {n : Nat}
    (h : Rp.Keeps w G v7 v8 (ps ++ [p]) (ts ++ [s]) n w1) (hn : n = ps.length) (hl : ps.length = ts.length)
    (o8 : w2.ownsRow w.heap.size 9 1 v8' (n + 1) (((ts ++ [s]).take n).map Value.string ++ [.string s])) (g8 : w1.grownBy w2 v8.ownBlock) :
    Rp.Keeps w G v7 v8' (ps ++ [p]) (ts ++ [s]) (ps ++ [p]).length w2 := by
  subst hn
  have hp := h.pos
  have hi := Rp.own_int h.row8 hp (by
    intro u hu x
    rw [List.getElem?_map] at hu
    cases h0 : ((ts ++ [s]).take ps.length)[0]? with
    | none => rw [h0] at hu; simp at hu
    | some q => rw [h0] at hu; simp at hu; rw [← hu]; simp)
  have h78 : v7.ownBlock ≠ v8.ownBlock := Rp.own_ne h.row7 h.row8 (by simp) hp (by decide)
  obtain ⟨q, hq⟩ := h.box
  have hG8 : some G ≠ v8.ownBlock := by
    intro e
    rcases h.row8.2 with ⟨_, h0⟩ | ⟨g, cap, cur, rfl, _, hh, _⟩
    · omega
    · simp [Value.ownBlock] at e
      subst e
      rw [hq] at hh
      simp at hh
  have e : ((ts ++ [s]).take ps.length).map Value.string ++ [.string s] = ((ts ++ [s]).take (ps ++ [p]).length).map Value.string := by
    rw [hl, List.take_left, List.length_append, hl, List.take_of_length_le (by simp)]; simp
  refine ⟨h.len, by simp, Nat.le_refl _, h.row7.kept g8 (.inr h78), by rw [← e]; simpa using o8, fun j hj => ⟨(h.reps j hj).1.grown g8 hi, (h.reps j hj).2⟩, ⟨q, ?_⟩, h.ne7, Nat.lt_of_lt_of_le h.ltG g8.size, h.leG, h.be.grown g8 h.be.size (fun k hk => (h.row8.lt k hk).1)⟩
  rw [g8.block G h.ltG hG8]; exact hq
theorem Rp.blocks3 (w : World) (A B C : Obj) : (((w.alloc A).alloc B).alloc C).heap[w.heap.size]? = some A ∧ (((w.alloc A).alloc B).alloc C).heap[w.heap.size + 1]? = some B ∧ (((w.alloc A).alloc B).alloc C).heap[w.heap.size + 1 + 1]? = some C := by
  have e1 : (w.alloc A).heap.size = w.heap.size + 1 := by simp [go_sem]
  have e2 : ((w.alloc A).alloc B).heap.size = w.heap.size + 1 + 1 := by simp [go_sem]
  refine ⟨?_, ?_, ?_⟩
  · rw [Below.heap_alloc _ _ _ (by omega), Below.heap_alloc _ _ _ (by omega)]; exact heap_alloc_new _ _
  · rw [Below.heap_alloc _ _ _ (by omega), ← e1]; exact heap_alloc_new _ _
  · rw [← e2]; exact heap_alloc_new _ _
theorem Rp.block_add (a : Addr) (n : Nat) : (a.add n).block = a.block := by unfold Addr.add; split <;> rfl
theorem Rp.Keeps.ne8 {w : World} {G : Nat} {v7 v8 : Value} {ps : List (Option Addr)} {ts : List ByteArray} {m : Nat} {wr : World} (h : Rp.Keeps w G v7 v8 ps ts m wr) : v8.ownBlock ≠ some G := by
  obtain ⟨q, hq⟩ := h.box
  intro e
  rcases h.row8.2 with ⟨_, h0⟩ | ⟨g, cap, cur, rfl, _, hh, _⟩
  · have := h.pos; omega
  · simp [Value.ownBlock] at e
    subst e
    rw [hq] at hh
    simp at hh
/-- another rope in the variable -/
theorem Rp.Keeps.setG {w : World} {G : Nat} {v7 v8 : Value} {ps : List (Option Addr)} {ts : List ByteArray} {m : Nat} {wr : World} (h : Rp.Keeps w G v7 v8 ps ts m wr) (p : Option Addr) : Rp.Keeps w G v7 v8 ps ts m (wr.setCell ⟨G, 0, none⟩ (.pointer p)) := by
  obtain ⟨q, hq⟩ := h.box
  obtain ⟨x, hx⟩ := h.cellG
  have B := h.be.setCell (p := ⟨G, 0, none⟩) h.leG (.pointer p)
  refine ⟨h.len, h.pos, h.mle, ownsRow_setCell_other h.row7 h.ne7 _, ownsRow_setCell_other h.row8 h.ne8 _, fun j hj => ⟨(h.reps j hj).1.set hx _, (h.reps j hj).2⟩, ⟨p, one_setCell hq⟩, h.ne7, ?_, h.leG, B⟩
  exact lt_of_block (one_setCell (u := .pointer p) hq)
/-- a rope in another variable -/
theorem Rp.Keeps.setX {w : World} {G X : Nat} {v7 v8 : Value} {ps : List (Option Addr)} {ts : List ByteArray} {m : Nat} {wr : World} {x : Option Addr} (h : Rp.Keeps w G v7 v8 ps ts m wr) (hx : wr.cell? ⟨X, 0, none⟩ = some (.pointer x)) (n7 : v7.ownBlock ≠ some X) (n8 : v8.ownBlock ≠ some X) (nG : G ≠ X) (hX : w.heap.size ≤ X) (p : Option Addr) : Rp.Keeps w G v7 v8 ps ts m (wr.setCell ⟨X, 0, none⟩ (.pointer p)) := by
  obtain ⟨q, hq⟩ := h.box
  have B := h.be.setCell (p := ⟨X, 0, none⟩) hX (.pointer p)
  have e : (wr.setCell ⟨X, 0, none⟩ (.pointer p)).heap[G]? = wr.heap[G]? := Below.heap_setCell _ _ _ _ nG
  refine ⟨h.len, h.pos, h.mle, ownsRow_setCell_other h.row7 n7 _, ownsRow_setCell_other h.row8 n8 _, fun j hj => ⟨(h.reps j hj).1.set hx _, (h.reps j hj).2⟩, ⟨q, by rw [e]; exact hq⟩, h.ne7, ?_, h.leG, B⟩
  exact lt_of_block (by rw [e]; exact hq)
theorem Rp.tk_cut (t : ByteArray) (f g : Nat) (h : f ≤ g) : (t.extract 0 f ++ t.extract g t.size).data.toList = Rp.tk t.data.toList f g := by
  rw [Rp.append_data, Rp.ext_left, Rp.ext_right]
  unfold Rp.tk
  split
  · simp
  · have : f = g := by omega
    subst this; exact List.take_append_drop _ _
theorem Rp.add_form (a : Addr) (n : Nat) (h : n ≠ 0) : a.add n = ⟨a.block, a.off + n, none⟩ := by unfold Addr.add; rw [if_neg h]
end Go.Proofs.Ytigibeioapkgiaa
