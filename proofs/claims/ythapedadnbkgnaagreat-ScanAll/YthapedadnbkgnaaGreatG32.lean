/- A part of the document's machine in memory. What beside answers, walked. What the document's beside answers, walked. What the document's of hands back: parts in memory; its drawn regions. A region of the document's of: two calls whose answers go into two new blocks, in an open order. What the document's of keeps while what follows is put together: facts about worlds. What the document's of keeps behind its inner loop: the part that comes next, with its own first and last Ones. UNFINISHED (it says so where): what the document's of answers of a CAT, being walked. What the document's of keeps at an ALT and at a STAR: facts about worlds. What the document's of answers of an ALT, walked. -/
import Derived.Test.YthapedadnbkgnaaGreatG14
import Derived.Test.YthapedadnbkgnaaGreatG16
import Derived.Deep.Onto
import Derived.Test.YthapedadnbkgnaaGreatG12
namespace Go.Proofs.YthapedadnbkgnaaGreat
set_option linter.unusedVariables false
set_option linter.unusedSimpArgs false
open Go.RowKit
structure Nh.PB (w : World) (b : Nat) (n : Int) (vF vL : Value) (e : Bool) (vN : Value) : Prop where
  c0 : w.cell? ⟨b, 0, none⟩ = some (.int .i64 n)
  c1 : w.cell? ⟨b, 1, none⟩ = some vF
  c2 : w.cell? ⟨b, 2, none⟩ = some vL
  c3 : w.cell? ⟨b, 3, none⟩ = some (.bool e)
  c4 : w.cell? ⟨b, 4, none⟩ = some vN
  z : ∀ i, i < 5 → w.frozen? ⟨b, i, none⟩ = false
theorem Nh.PB.lt {w : World} {b : Nat} {n : Int} {vF vL : Value} {e : Bool} {vN : Value} (h : Nh.PB w b n vF vL e vN) : b < w.heap.size := World.block_lt_of_cell? w _ h.c0
theorem Nh.PB.only {w w' : World} {b : Nat} {n : Int} {vF vL : Value} {e : Bool} {vN : Value} (h : Nh.PB w b n vF vL e vN) (hb : w'.heap[b]? = w.heap[b]?) : Nh.PB w' b n vF vL e vN :=
  ⟨(World.cell?_of_block (a := ⟨b, 0, none⟩) hb).trans h.c0, (World.cell?_of_block (a := ⟨b, 1, none⟩) hb).trans h.c1, (World.cell?_of_block (a := ⟨b, 2, none⟩) hb).trans h.c2, (World.cell?_of_block (a := ⟨b, 3, none⟩) hb).trans h.c3, (World.cell?_of_block (a := ⟨b, 4, none⟩) hb).trans h.c4, fun i hi => (World.frozen?_of_block (a := ⟨b, i, none⟩) hb).trans (h.z i hi)⟩
theorem Nh.PB.up {w w' : World} {b : Nat} {n : Int} {vF vL : Value} {e : Bool} {vN : Value} (h : Nh.PB w b n vF vL e vN) (hb : Below w.heap.size w w') : Nh.PB w' b n vF vL e vN := h.only (hb.block b h.lt)
theorem Nh.PB.far {w : World} {b : Nat} {n : Int} {vF vL : Value} {e : Bool} {vN : Value} (h : Nh.PB w b n vF vL e vN) {d i : Nat} (hd : d ≠ b) (x : Value) : Nh.PB (w.setCell ⟨d, i, none⟩ x) b n vF vL e vN := h.only (Below.heap_setCell _ _ _ _ (Ne.symm hd))
theorem Nh.PB.grown {w w' : World} {b : Nat} {n : Int} {vF vL : Value} {e : Bool} {vN : Value} {row : Option Nat} (h : Nh.PB w b n vF vL e vN) (hg : w.grownBy w' row) (hr : ¬ row = some b) : Nh.PB w' b n vF vL e vN := h.only (hg.block b h.lt (fun e => hr e.symm))
theorem Nh.PB.set0 {w : World} {b : Nat} {n : Int} {vF vL : Value} {e : Bool} {vN : Value} (h : Nh.PB w b n vF vL e vN) (m : Int) : Nh.PB (w.setCell ⟨b, 0, none⟩ (.int .i64 m)) b m vF vL e vN := by
  obtain ⟨c0, c1, c2, c3, c4, z⟩ := h
  refine ⟨?_, ?_, ?_, ?_, ?_, fun i hi => by simpa using z i hi⟩ <;> simp [go_sem, c0, c1, c2, c3, c4]
theorem Nh.PB.set1 {w : World} {b : Nat} {n : Int} {vF vL : Value} {e : Bool} {vN : Value} (h : Nh.PB w b n vF vL e vN) (x : Value) : Nh.PB (w.setCell ⟨b, 1, none⟩ x) b n x vL e vN := by
  obtain ⟨c0, c1, c2, c3, c4, z⟩ := h
  refine ⟨?_, ?_, ?_, ?_, ?_, fun i hi => by simpa using z i hi⟩ <;> simp [go_sem, c0, c1, c2, c3, c4]
theorem Nh.PB.set2 {w : World} {b : Nat} {n : Int} {vF vL : Value} {e : Bool} {vN : Value} (h : Nh.PB w b n vF vL e vN) (x : Value) : Nh.PB (w.setCell ⟨b, 2, none⟩ x) b n vF x e vN := by
  obtain ⟨c0, c1, c2, c3, c4, z⟩ := h
  refine ⟨?_, ?_, ?_, ?_, ?_, fun i hi => by simpa using z i hi⟩ <;> simp [go_sem, c0, c1, c2, c3, c4]
theorem Nh.PB.set3 {w : World} {b : Nat} {n : Int} {vF vL : Value} {e : Bool} {vN : Value} (h : Nh.PB w b n vF vL e vN) (x : Bool) : Nh.PB (w.setCell ⟨b, 3, none⟩ (.bool x)) b n vF vL x vN := by
  obtain ⟨c0, c1, c2, c3, c4, z⟩ := h
  refine ⟨?_, ?_, ?_, ?_, ?_, fun i hi => by simpa using z i hi⟩ <;> simp [go_sem, c0, c1, c2, c3, c4]
theorem Nh.PB.set4 {w : World} {b : Nat} {n : Int} {vF vL : Value} {e : Bool} {vN : Value} (h : Nh.PB w b n vF vL e vN) (x : Value) : Nh.PB (w.setCell ⟨b, 4, none⟩ x) b n vF vL e x := by
  obtain ⟨c0, c1, c2, c3, c4, z⟩ := h
  refine ⟨?_, ?_, ?_, ?_, ?_, fun i hi => by simpa using z i hi⟩ <;> simp [go_sem, c0, c1, c2, c3, c4]
def Nh.Rows (w : World) (B : Nat → Prop) (rows : List Value) (N : List (List Int)) : Prop := rows.length = N.length ∧ ∀ i (h : i < rows.length) (h' : i < N.length), Nf.Row w B rows[i] N[i]
theorem Nh.Rows.up {w w' : World} {B : Nat → Prop} {rows : List Value} {N : List (List Int)} (h : Nh.Rows w B rows N) (hb : Below w.heap.size w w') : Nh.Rows w' B rows N := ⟨h.1, fun i h1 h2 => (h.2 i h1 h2).up hb⟩
theorem Nh.Rows.mono {w : World} {B B' : Nat → Prop} {rows : List Value} {N : List (List Int)} (h : Nh.Rows w B rows N) (hB : ∀ k, B k → B' k) : Nh.Rows w B' rows N := ⟨h.1, fun i h1 h2 => (h.2 i h1 h2).mono hB⟩
theorem Nh.Rows.lt {w : World} {B : Nat → Prop} {rows : List Value} {N : List (List Int)} (h : Nh.Rows w B rows N) : Nh.Rows w (fun k => B k ∧ k < w.heap.size) rows N := ⟨h.1, fun i h1 h2 => (h.2 i h1 h2).lt⟩
theorem Nh.Rows.grown {w w' : World} {B : Nat → Prop} {rows : List Value} {N : List (List Int)} {row : Option Nat} (h : Nh.Rows w B rows N) (hg : w.grownBy w' row) (hB : ∀ k, B k → some k ≠ row) : Nh.Rows w' B rows N := ⟨h.1, fun i h1 h2 => (h.2 i h1 h2).grown hg hB⟩
theorem Nh.Rows.set {w : World} {B : Nat → Prop} {rows : List Value} {N : List (List Int)} (h : Nh.Rows w B rows N) {b i : Nat} (hb : ¬ B b) (u : Value) : Nh.Rows (w.setCell ⟨b, i, none⟩ u) B rows N := ⟨h.1, fun j h1 h2 => (h.2 j h1 h2).set hb u⟩
theorem Nh.Rows.snoc {w : World} {B : Nat → Prop} {rows : List Value} {N : List (List Int)} (h : Nh.Rows w B rows N) {v : Value} {l : List Int} (hv : Nf.Row w B v l) : Nh.Rows w B (rows ++ [v]) (N ++ [l]) := by
  refine ⟨by simp [h.1], fun i h1 h2 => ?_⟩
  by_cases e : i < rows.length
  · have e' : i < N.length := by rw [← h.1]; exact e
    simp only [List.getElem_append_left e, List.getElem_append_left e']
    exact h.2 i e e'
  · have h0 : i - rows.length = 0 := by simp at h1; omega
    have h0' : i - N.length = 0 := by rw [← h.1]; exact h0
    simp only [List.getElem_append_right (show rows.length ≤ i by omega), List.getElem_append_right (show N.length ≤ i by rw [← h.1]; omega), h0, h0']
    exact hv
theorem Nh.Rows.append {w : World} {B : Nat → Prop} {rows : List Value} {N : List (List Int)} (h : Nh.Rows w B rows N) : ∀ {rows' : List Value} {N' : List (List Int)}, Nh.Rows w B rows' N' → Nh.Rows w B (rows ++ rows') (N ++ N')
  | [], N', h' => by
    have : N' = [] := List.length_eq_zero_iff.1 h'.1.symm
    subst this
    simpa using h
  | v :: r, [], h' => by have := h'.1; simp at this
  | v :: r, l :: N', h' => by
    have h1 := (h.snoc (h'.2 0 (by simp) (by simp))).append (rows' := r) (N' := N') ⟨by have := h'.1; simpa using this, fun i h1 h2 => h'.2 (i + 1) (by simpa using h1) (by simpa using h2)⟩
    simpa using h1
theorem Nh.Rows.one {w : World} {B : Nat → Prop} {rows : List Value} {N : List (List Int)} (h : Nh.Rows w B rows N) : ∀ u ∈ rows, u.oneCell' = true := by
  intro u hu
  obtain ⟨i, hi, rfl⟩ := List.getElem_of_mem hu
  obtain ⟨a, n, c, e⟩ := (h.2 i hi (by rw [← h.1]; exact hi)).form
  rw [e]; rfl
theorem Nh.row_same {w w' : World} {B : Nat → Prop} {v : Value} {l : List Int} (h : Nf.Row w B v l) (hs : ∀ k, B k → w'.heap[k]? = w.heap[k]?) : Nf.Row w' B v l := by
  obtain ⟨a, cap, e, h1, h2, h3, h4⟩ := h
  refine ⟨a, cap, e, h1, h2, fun i hi => ?_, h4⟩
  obtain ⟨x, ex, hx⟩ := h3 i hi
  have hx2 : (x.add i).block = x.block := by simp only [Addr.add]; split <;> rfl
  exact ⟨x, ex, (World.cell?_of_block (by rw [hx2]; exact hs _ (h4 x ex (fun e0 => by rw [e0] at hi; simp at hi)))).trans hx⟩
theorem Nh.Rows.same {w w' : World} {B : Nat → Prop} {rows : List Value} {N : List (List Int)} (h : Nh.Rows w B rows N) (hs : ∀ k, B k → w'.heap[k]? = w.heap[k]?) : Nh.Rows w' B rows N := ⟨h.1, fun i h1 h2 => Nh.row_same (h.2 i h1 h2) hs⟩
theorem Nh.own_same {w w' : World} {base : Nat} {v : Value} {rows : List Value} (h : Ng.Own base v rows w) (hs : ∀ k, v.ownBlock = some k → w'.heap[k]? = w.heap[k]?) : Ng.Own base v rows w' := by
  refine ⟨h.1, ?_⟩
  rcases h.2 with h0 | ⟨g, cap, cur, rfl, h1, h2, h3⟩
  · exact .inl h0
  · exact .inr ⟨g, cap, cur, rfl, h1, by rw [hs g rfl]; exact h2, h3⟩
def Nh.put (w : World) (b : Nat) (n : Int) (vF vL : Value) (e : Bool) (vN : Value) : World := ((((w.setCell ⟨b, 0, none⟩ (.int .i64 n)).setCell ⟨b, 1, none⟩ vF).setCell ⟨b, 2, none⟩ vL).setCell ⟨b, 3, none⟩ (.bool e)).setCell ⟨b, 4, none⟩ vN
theorem Nh.put_far (w : World) (b : Nat) (n : Int) (vF vL : Value) (e : Bool) (vN : Value) (k : Nat) (h : k ≠ b) : (Nh.put w b n vF vL e vN).heap[k]? = w.heap[k]? := by
  unfold Nh.put
  rw [Below.heap_setCell _ _ _ _ h, Below.heap_setCell _ _ _ _ h, Below.heap_setCell _ _ _ _ h, Below.heap_setCell _ _ _ _ h, Below.heap_setCell _ _ _ _ h]
theorem Nh.put_below {B : Nat} {w u : World} (h : Below B w u) {b : Nat} (hb : B ≤ b) (n : Int) (vF vL : Value) (e : Bool) (vN : Value) : Below B w (Nh.put u b n vF vL e vN) :=
  ((((h.setCell (p := ⟨b, 0, none⟩) hb _).setCell (p := ⟨b, 1, none⟩) hb _).setCell (p := ⟨b, 2, none⟩) hb _).setCell (p := ⟨b, 3, none⟩) hb _).setCell (p := ⟨b, 4, none⟩) hb _
theorem Nh.put_pb {w : World} {b : Nat} {n' : Int} {vF' vL' : Value} {e' : Bool} {vN' : Value} (h : Nh.PB w b n' vF' vL' e' vN') (n : Int) (vF vL : Value) (e : Bool) (vN : Value) : Nh.PB (Nh.put w b n vF vL e vN) b n vF vL e vN := ((((h.set0 n).set1 vF).set2 vL).set3 e).set4 vN
end Go.Proofs.YthapedadnbkgnaaGreat
namespace Go.Proofs.YthapedadnbkgnaaGreat
set_option linter.unusedVariables false
set_option linter.unusedSimpArgs false
open Go.RowKit
structure Nh.BW (w : World) (A X : Nat) (n1 n2 : Int) (vF1 vL1 : Value) (e1 : Bool) (vN1 vF vL : Value) (e2 : Bool) (vN2 : Value) (F L : List Int) (u : World) : Prop where
  bel : Below w.heap.size w u
  pa : Nh.PB u A n1 vF1 vL1 e1 vN1
  pb : Nh.PB u (A + 1) n2 vF vL e2 vN2
  p1 : Nh.PB u (A + 2) 0 (.slice none 0 0) (.slice none 0 0) false (.slice none 0 0)
  p2 : Nh.PB u (A + 3) 0 (.slice none 0 0) (.slice none 0 0) false (.slice none 0 0)
  rf : Nf.Row u (fun k => A + 4 ≤ k ∧ k < X) vF F
  rl : Nf.Row u (fun k => A + 4 ≤ k ∧ k < X) vL L
  hA : w.heap.size ≤ A
  hX : A + 4 ≤ X
  xu : X ≤ u.heap.size
theorem Nh.BW.up {w : World} {A X : Nat} {n1 n2 : Int} {vF1 vL1 : Value} {e1 : Bool} {vN1 vF vL : Value} {e2 : Bool} {vN2 : Value} {F L : List Int} {u u' : World} (h : Nh.BW w A X n1 n2 vF1 vL1 e1 vN1 vF vL e2 vN2 F L u) (hb : Below u.heap.size u u') : Nh.BW w A X n1 n2 vF1 vL1 e1 vN1 vF vL e2 vN2 F L u' :=
  ⟨Bs.below_up h.bel hb, h.pa.up hb, h.pb.up hb, h.p1.up hb, h.p2.up hb, h.rf.up hb, h.rl.up hb, h.hA, h.hX, Nat.le_trans h.xu hb.size⟩
theorem Nh.BW.grown {w : World} {A X : Nat} {n1 n2 : Int} {vF1 vL1 : Value} {e1 : Bool} {vN1 vF vL : Value} {e2 : Bool} {vN2 : Value} {F L : List Int} {u u' : World} {row : Option Nat} (h : Nh.BW w A X n1 n2 vF1 vL1 e1 vN1 vF vL e2 vN2 F L u) (hg : u.grownBy u' row) (hr : ∀ k, row = some k → X ≤ k) : Nh.BW w A X n1 n2 vF1 vL1 e1 vN1 vF vL e2 vN2 F L u' := by
  have hX := h.hX
  have n : ∀ j, j < X → ¬ row = some j := fun j hj e => by have := hr j e; omega
  exact ⟨h.bel.grown hg h.bel.size (fun k hk => by have := hr k hk; have := h.hA; omega), h.pa.grown hg (n _ (by omega)), h.pb.grown hg (n _ (by omega)), h.p1.grown hg (n _ (by omega)), h.p2.grown hg (n _ (by omega)), h.rf.grown hg (fun k hk e => n k hk.2 e.symm), h.rl.grown hg (fun k hk e => n k hk.2 e.symm), h.hA, h.hX, Nat.le_trans h.xu hg.size⟩
structure Nh.NX (X : Nat) (v : Value) (rows1 rs : List Value) (N : List (List Int)) (u : World) : Prop where
  own : Ng.Own X v (rows1 ++ rs) u
  rows : Nh.Rows u (fun k => X ≤ k ∧ some k ≠ v.ownBlock) rs N
theorem Nh.NX.up {X : Nat} {v : Value} {rows1 rs : List Value} {N : List (List Int)} {u u' : World} (h : Nh.NX X v rows1 rs N u) (hb : Below u.heap.size u u') : Nh.NX X v rows1 rs N u' := ⟨h.own.up hb, h.rows.up hb⟩
structure Nh.WB (w : World) (A X K : Nat) (n1 n2 : Int) (vF1 vL1 : Value) (e1 : Bool) (vN1 vF vL : Value) (e2 : Bool) (vN2 : Value) (F L : List Int) (v : Value) (rows1 rs : List Value) (N : List (List Int)) (Lst : Nat → Bool) (u : World) : Prop where
  bw : Nh.BW w A X n1 n2 vF1 vL1 e1 vN1 vF vL e2 vN2 F L u
  nx : Lst 10 = false → Nh.NX X v rows1 rs N u
  ku : K ≤ u.heap.size
theorem Nh.WB.on {w : World} {A X K : Nat} {n1 n2 : Int} {vF1 vL1 : Value} {e1 : Bool} {vN1 vF vL : Value} {e2 : Bool} {vN2 : Value} {F L : List Int} {v : Value} {rows1 rs : List Value} {N : List (List Int)} {Lst : Nat → Bool} {u : World} (h : Nh.WB w A X K n1 n2 vF1 vL1 e1 vN1 vF vL e2 vN2 F L v rows1 rs N Lst u) (j : Nat) (hj : j ≠ 10) : Nh.WB w A X K n1 n2 vF1 vL1 e1 vN1 vF vL e2 vN2 F L v rows1 rs N (fun k => decide (k = j) || Lst k) u :=
  ⟨h.bw, fun e => h.nx (by simpa [Ne.symm hj] using e), h.ku⟩
theorem Nh.WB.up {w : World} {A X K : Nat} {n1 n2 : Int} {vF1 vL1 : Value} {e1 : Bool} {vN1 vF vL : Value} {e2 : Bool} {vN2 : Value} {F L : List Int} {v : Value} {rows1 rs : List Value} {N : List (List Int)} {Lst : Nat → Bool} {u u' : World} (h : Nh.WB w A X K n1 n2 vF1 vL1 e1 vN1 vF vL e2 vN2 F L v rows1 rs N Lst u) (hb : Below u.heap.size u u') : Nh.WB w A X K n1 n2 vF1 vL1 e1 vN1 vF vL e2 vN2 F L v rows1 rs N Lst u' :=
  ⟨h.bw.up hb, fun e => (h.nx e).up hb, Nat.le_trans h.ku hb.size⟩
end Go.Proofs.YthapedadnbkgnaaGreat
namespace Go.Proofs.YthapedadnbkgnaaGreat
set_option linter.unusedVariables false
set_option linter.unusedSimpArgs false
open Go.RowKit
structure Nh.Pv (w : World) (base : Nat) (vF vL vN : Value) (F L : List Int) (N : List (List Int)) : Prop where
  rf : Nf.Row w (fun k => base ≤ k ∧ some k ≠ vN.ownBlock) vF F
  rl : Nf.Row w (fun k => base ≤ k ∧ some k ≠ vN.ownBlock) vL L
  nx : ∃ rows, Ng.Own base vN rows w ∧ Nh.Rows w (fun k => base ≤ k ∧ some k ≠ vN.ownBlock) rows N
theorem Nh.Pv.up {w w' : World} {base : Nat} {vF vL vN : Value} {F L : List Int} {N : List (List Int)} (h : Nh.Pv w base vF vL vN F L N) (hb : Below w.heap.size w w') : Nh.Pv w' base vF vL vN F L N := by
  obtain ⟨rows, h1, h2⟩ := h.nx
  exact ⟨h.rf.up hb, h.rl.up hb, rows, h1.up hb, h2.up hb⟩
theorem Nh.Pv.mono {w : World} {base base' : Nat} {vF vL vN : Value} {F L : List Int} {N : List (List Int)} (h : Nh.Pv w base vF vL vN F L N) (hb : base' ≤ base) : Nh.Pv w base' vF vL vN F L N := by
  obtain ⟨rows, h1, h2⟩ := h.nx
  exact ⟨h.rf.mono (fun k hk => ⟨by omega, hk.2⟩), h.rl.mono (fun k hk => ⟨by omega, hk.2⟩), rows, World.ownsRow.mono h1 hb, h2.mono (fun k hk => ⟨by omega, hk.2⟩)⟩
def Nh.OPost (w : World) (x : Rx) (e : Ending) (w' : World) : Prop := ∃ (n : Nat) (vF vL : Value) (em : Bool) (vN : Value) (F L : List Int) (N : List (List Int)), e = .returned (.agg #[.int .i64 n, vF, vL, .bool em, vN]) ∧ Nh.Pv w' w.heap.size vF vL vN F L N ∧ Nf.PartIs n F L em N (Nf.ones x) x.emp (Nf.fst x) (Nf.lst x) (Nf.fol x) ∧ Below w.heap.size w w'
end Go.Proofs.YthapedadnbkgnaaGreat
namespace Go.Proofs.YthapedadnbkgnaaGreat
set_option linter.unusedVariables false
set_option linter.unusedSimpArgs false
open Go.RowKit
structure Nh.Gh where
  o : Option Value
  ab : Option (Value × Value)
  x : Option Nat
  y : Option Nat
structure Nh.CW (w : World) (k : Nat) (f : Nat → Bool) (al : Option Addr) (n cap b : Nat) (n1 : Nat) (vF1 vL1 : Value) (e1 : Bool) (vN1 : Value) (F1 L1 : List Int) (N1 : List (List Int)) (rows1 : List Value) (u : World) : Prop where
  bel : Below w.heap.size w u
  nd : Rx.Nod u w.heap.size k f al n cap
  p2 : Nh.PB u (w.heap.size + 1) 0 (.slice none 0 0) (.slice none 0 0) false (.slice none 0 0)
  pb : Nh.PB u b n1 vF1 vL1 e1 vN1
  rf : Nf.Row u (fun k => b < k ∧ some k ≠ vN1.ownBlock) vF1 F1
  rl : Nf.Row u (fun k => b < k ∧ some k ≠ vN1.ownBlock) vL1 L1
  ow : Ng.Own (b + 1) vN1 rows1 u
  rw' : Nh.Rows u (fun k => b < k ∧ some k ≠ vN1.ownBlock) rows1 N1
  hb : w.heap.size + 1 < b
theorem Nh.CW.up {w : World} {k : Nat} {f : Nat → Bool} {al : Option Addr} {n cap b n1 : Nat} {vF1 vL1 : Value} {e1 : Bool} {vN1 : Value} {F1 L1 : List Int} {N1 : List (List Int)} {rows1 : List Value} {u u' : World} (h : Nh.CW w k f al n cap b n1 vF1 vL1 e1 vN1 F1 L1 N1 rows1 u) (hb : Below u.heap.size u u') : Nh.CW w k f al n cap b n1 vF1 vL1 e1 vN1 F1 L1 N1 rows1 u' :=
  ⟨Bs.below_up h.bel hb, h.nd.up hb, h.p2.up hb, h.pb.up hb, h.rf.up hb, h.rl.up hb, h.ow.up hb, h.rw'.up hb, h.hb⟩
theorem Nh.CW.far {w : World} {k : Nat} {f : Nat → Bool} {al : Option Addr} {n cap b n1 : Nat} {vF1 vL1 : Value} {e1 : Bool} {vN1 : Value} {F1 L1 : List Int} {N1 : List (List Int)} {rows1 : List Value} {u' : World} {K : Nat} (h0 : ∃ u0 : World, u0.heap.size = K ∧ Nh.CW w k f al n cap b n1 vF1 vL1 e1 vN1 F1 L1 N1 rows1 u0 ∧ Below K u0 u') : Nh.CW w k f al n cap b n1 vF1 vL1 e1 vN1 F1 L1 N1 rows1 u' := by
  obtain ⟨u0, e, h, hb⟩ := h0
  exact h.up (by rw [e]; exact hb)
def Nh.free (g : Nh.Gh) (k : Nat) : Prop := g.x ≠ some k ∧ g.y ≠ some k
structure Nh.BeF (K : Nat) (g : Nh.Gh) (y : Rx) (n1 : Nat) (vF1 vL1 : Value) (e1 : Bool) (rows1 : List Value) (a b : Value) (n2 : Nat) (vF vL vN : Value) (e2 : Bool) (vN2 : Value) (rs : List Value) (F2 L2 : List Int) (N2 : List (List Int)) (u : World) : Prop where
  ea : a = .agg #[.int .i64 n1, vF1, vL1, .bool e1, vN]
  eb : b = .agg #[.int .i64 (n2 + n1 : Nat), vF, vL, .bool e2, vN2]
  pt : Nf.PartIs n2 F2 L2 e2 N2 (Nf.ones y) y.emp (Nf.fst y) (Nf.lst y) (Nf.fol y)
  rf : Nf.Row u (fun k => K ≤ k ∧ some k ≠ vN.ownBlock ∧ Nh.free g k) vF (Nf.shift F2 n1)
  rl : Nf.Row u (fun k => K ≤ k ∧ some k ≠ vN.ownBlock ∧ Nh.free g k) vL (Nf.shift L2 n1)
  ow : Ng.Own K vN (rows1 ++ rs) u
  rr : Nh.Rows u (fun k => K ≤ k ∧ some k ≠ vN.ownBlock ∧ Nh.free g k) rs (N2.map fun l => Nf.shift l n1)
  fr : ∀ k, vN.ownBlock = some k → Nh.free g k
  f2 : ∃ a n c, vN2 = .slice a n c
def Nh.Be (K : Nat) (g : Nh.Gh) (y : Rx) (n1 : Nat) (vF1 vL1 : Value) (e1 : Bool) (rows1 : List Value) (a b : Value) (u : World) : Prop := ∃ n2 vF vL vN e2 vN2 rs F2 L2 N2, Nh.BeF K g y n1 vF1 vL1 e1 rows1 a b n2 vF vL vN e2 vN2 rs F2 L2 N2 u
theorem Nh.Be.up {K : Nat} {g g' : Nh.Gh} {y : Rx} {n1 : Nat} {vF1 vL1 : Value} {e1 : Bool} {rows1 : List Value} {a b : Value} {u u' : World} (h : Nh.Be K g y n1 vF1 vL1 e1 rows1 a b u) (hb : Below u.heap.size u u') (hg : ∀ k, k < u.heap.size → Nh.free g k → Nh.free g' k) : Nh.Be K g' y n1 vF1 vL1 e1 rows1 a b u' := by
  obtain ⟨n2, vF, vL, vN, e2, vN2, rs, F2, L2, N2, h⟩ := h
  exact ⟨n2, vF, vL, vN, e2, vN2, rs, F2, L2, N2, h.ea, h.eb, h.pt, (h.rf.lt.mono (fun k hk => ⟨hk.1.1, hk.1.2.1, hg k hk.2 hk.1.2.2⟩)).up hb, (h.rl.lt.mono (fun k hk => ⟨hk.1.1, hk.1.2.1, hg k hk.2 hk.1.2.2⟩)).up hb, h.ow.up hb, (h.rr.lt.mono (fun k hk => ⟨hk.1.1, hk.1.2.1, hg k hk.2 hk.1.2.2⟩)).up hb, fun k hk => hg k (World.ownsRow.lt h.ow k hk).2 (h.fr k hk), h.f2⟩
theorem Nh.Be.same {K : Nat} {g : Nh.Gh} {y : Rx} {n1 : Nat} {vF1 vL1 : Value} {e1 : Bool} {rows1 : List Value} {a b : Value} {u u' : World} (h : Nh.Be K g y n1 vF1 vL1 e1 rows1 a b u) (hs : ∀ k, Nh.free g k → u'.heap[k]? = u.heap[k]?) : Nh.Be K g y n1 vF1 vL1 e1 rows1 a b u' := by
  obtain ⟨n2, vF, vL, vN, e2, vN2, rs, F2, L2, N2, h⟩ := h
  exact ⟨n2, vF, vL, vN, e2, vN2, rs, F2, L2, N2, h.ea, h.eb, h.pt, Nh.row_same h.rf (fun k hk => hs k hk.2.2), Nh.row_same h.rl (fun k hk => hs k hk.2.2), Nh.own_same h.ow (fun k hk => hs k (h.fr k hk)), h.rr.same (fun k hk => hs k hk.2.2), h.fr, h.f2⟩
def Nh.Of (K : Nat) (y : Rx) (o : Value) (u : World) : Prop := ∃ (n2 : Nat) (vF vL : Value) (em : Bool) (vN : Value) (F L : List Int) (N : List (List Int)), o = .agg #[.int .i64 n2, vF, vL, .bool em, vN] ∧ Nh.Pv u K vF vL vN F L N ∧ Nf.PartIs n2 F L em N (Nf.ones y) y.emp (Nf.fst y) (Nf.lst y) (Nf.fol y)
theorem Nh.Of.up {K : Nat} {y : Rx} {o : Value} {u u' : World} (h : Nh.Of K y o u) (hb : Below u.heap.size u u') : Nh.Of K y o u' := by
  obtain ⟨n2, vF, vL, em, vN, F, L, N, e, h1, h2⟩ := h
  exact ⟨n2, vF, vL, em, vN, F, L, N, e, h1.up hb, h2⟩
structure Nh.WG (w : World) (k : Nat) (f : Nat → Bool) (al : Option Addr) (n cap b : Nat) (n1 : Nat) (vF1 vL1 : Value) (e1 : Bool) (vN1 : Value) (F1 L1 : List Int) (N1 : List (List Int)) (rows1 : List Value) (y : Rx) (K : Nat) (g : Nh.Gh) (Lst : Nat → Bool) (u : World) : Prop where
  cw : Nh.CW w k f al n cap b n1 vF1 vL1 e1 vN1 F1 L1 N1 rows1 u
  ku : K ≤ u.heap.size
  no : Lst 6 = false → g.o = none
  nab : Lst 7 = false → g.ab = none
  nx : Lst 11 = false → g.x = none
  ny : Lst 12 = false → g.y = none
  of : ∀ o, g.o = some o → Lst 7 = false → Nh.Of K y o u
  be : ∀ a b, g.ab = some (a, b) → Nh.Be K g y n1 vF1 vL1 e1 rows1 a b u
  gx : ∀ x, g.x = some x → K ≤ x ∧ x < u.heap.size
  gy : ∀ x, g.y = some x → K ≤ x ∧ x < u.heap.size
  xy : ∀ x, g.x = some x → g.y ≠ some x
  zx : Lst 13 = false → ∀ x, g.x = some x → Nh.PB u x 0 (.slice none 0 0) (.slice none 0 0) false (.slice none 0 0)
  zy : Lst 14 = false → ∀ x, g.y = some x → Nh.PB u x 0 (.slice none 0 0) (.slice none 0 0) false (.slice none 0 0)
  sx : Lst 13 = true → ∃ x i vF vL e vN b, g.x = some x ∧ g.ab = some (.agg #[.int .i64 i, vF, vL, .bool e, vN], b) ∧ Nh.PB u x i vF vL e vN
  sy : Lst 14 = true → ∃ x i vF vL e vN a, g.y = some x ∧ g.ab = some (a, .agg #[.int .i64 i, vF, vL, .bool e, vN]) ∧ Nh.PB u x i vF vL e vN
theorem Nh.WG.on {w : World} {k : Nat} {f : Nat → Bool} {al : Option Addr} {n cap b n1 : Nat} {vF1 vL1 : Value} {e1 : Bool} {vN1 : Value} {F1 L1 : List Int} {N1 : List (List Int)} {rows1 : List Value} {y : Rx} {K : Nat} {g : Nh.Gh} {Lst : Nat → Bool} {u : World} (h : Nh.WG w k f al n cap b n1 vF1 vL1 e1 vN1 F1 L1 N1 rows1 y K g Lst u) (j : Nat) (h6 : j ≠ 6) (h7 : j ≠ 7) (h11 : j ≠ 11) (h12 : j ≠ 12) (h13 : j ≠ 13) (h14 : j ≠ 14) : Nh.WG w k f al n cap b n1 vF1 vL1 e1 vN1 F1 L1 N1 rows1 y K g (fun i => decide (i = j) || Lst i) u :=
  ⟨h.cw, h.ku, fun e => h.no (by simpa [Ne.symm h6] using e), fun e => h.nab (by simpa [Ne.symm h7] using e), fun e => h.nx (by simpa [Ne.symm h11] using e), fun e => h.ny (by simpa [Ne.symm h12] using e), fun o e e' => h.of o e (by simpa [Ne.symm h7] using e'), h.be, h.gx, h.gy, h.xy, fun e => h.zx (by simpa [Ne.symm h13] using e), fun e => h.zy (by simpa [Ne.symm h14] using e), fun e => h.sx (by simpa [Ne.symm h13] using e), fun e => h.sy (by simpa [Ne.symm h14] using e)⟩
end Go.Proofs.YthapedadnbkgnaaGreat
namespace Go.Proofs.YthapedadnbkgnaaGreat
set_option linter.unusedVariables false
set_option linter.unusedSimpArgs false
open Go.RowKit
def Nh.Kd (b bx bz bq : Nat) (vN : Value) (k : Nat) : Prop := b < k ∧ some k ≠ vN.ownBlock ∧ k ≠ bx ∧ k ≠ bz ∧ k ≠ bq
structure Nh.LW (w : World) (k : Nat) (f : Nat → Bool) (al : Option Addr) (n cap b bx bz bq : Nat) (n1 n2 : Int) (vF1 vL1 : Value) (e1 : Bool) (vN1 : Value) (vF vL : Value) (e2 : Bool) (vN2 : Value) (em : Bool) (vN : Value) (F1 L1 F2 L2 : List Int) (NQ : List (List Int)) (u : World) : Prop where
  bel : Below w.heap.size w u
  nd : Rx.Nod u w.heap.size k f al n cap
  p2 : Nh.PB u (w.heap.size + 1) 0 (.slice none 0 0) (.slice none 0 0) false (.slice none 0 0)
  pp : Nh.PB u b n1 vF1 vL1 e1 vN1
  pa : Nh.PB u bx n1 vF1 vL1 e1 vN
  pb : Nh.PB u bz n2 vF vL e2 vN2
  pq : Nh.PB u bq n2 vF1 vL em vN
  rf1 : Nf.Row u (Nh.Kd b bx bz bq vN) vF1 F1
  rl1 : Nf.Row u (Nh.Kd b bx bz bq vN) vL1 L1
  rf : Nf.Row u (Nh.Kd b bx bz bq vN) vF F2
  rl : Nf.Row u (Nh.Kd b bx bz bq vN) vL L2
  nx : ∃ rows, Ng.Own (b + 1) vN rows u ∧ Nh.Rows u (Nh.Kd b bx bz bq vN) rows NQ
  fr : ∀ j, vN.ownBlock = some j → b < j ∧ j ≠ bx ∧ j ≠ bz ∧ j ≠ bq
  hb : w.heap.size + 1 < b
  hx : b < bx
  hz : b < bz
  hq : b < bq
  xz : bx ≠ bz
  qx : bq ≠ bx
  qz : bq ≠ bz
theorem Nh.LW.up {w : World} {k : Nat} {f : Nat → Bool} {al : Option Addr} {n cap b bx bz bq : Nat} {n1 n2 : Int} {vF1 vL1 : Value} {e1 : Bool} {vN1 vF vL : Value} {e2 : Bool} {vN2 : Value} {em : Bool} {vN : Value} {F1 L1 F2 L2 : List Int} {NQ : List (List Int)} {u u' : World} (h : Nh.LW w k f al n cap b bx bz bq n1 n2 vF1 vL1 e1 vN1 vF vL e2 vN2 em vN F1 L1 F2 L2 NQ u) (hb : Below u.heap.size u u') : Nh.LW w k f al n cap b bx bz bq n1 n2 vF1 vL1 e1 vN1 vF vL e2 vN2 em vN F1 L1 F2 L2 NQ u' := by
  obtain ⟨rows, h1, h2⟩ := h.nx
  exact ⟨Bs.below_up h.bel hb, h.nd.up hb, h.p2.up hb, h.pp.up hb, h.pa.up hb, h.pb.up hb, h.pq.up hb, h.rf1.up hb, h.rl1.up hb, h.rf.up hb, h.rl.up hb, ⟨rows, h1.up hb, h2.up hb⟩, h.fr, h.hb, h.hx, h.hz, h.hq, h.xz, h.qx, h.qz⟩
theorem Nh.Rows.put {w : World} {B : Nat → Prop} {rows : List Value} {N : List (List Int)} (h : Nh.Rows w B rows N) (i : Nat) {v : Value} {l : List Int} (hv : Nf.Row w B v l) : Nh.Rows w B (rows.set i v) (N.set i l) := by
  refine ⟨by simp [h.1], fun j h1 h2 => ?_⟩
  rw [List.length_set] at h1 h2
  by_cases e : i = j
  · subst e
    simp only [List.getElem_set_self]
    exact hv
  · simp only [List.getElem_set_ne e]
    exact h.2 j h1 h2
theorem Nh.LW.put {w : World} {k : Nat} {f : Nat → Bool} {al : Option Addr} {n cap b bx bz bq : Nat} {n1 n2 : Int} {vF1 vL1 : Value} {e1 : Bool} {vN1 vF vL : Value} {e2 : Bool} {vN2 : Value} {em : Bool} {g m c : Nat} {F1 L1 F2 L2 : List Int} {NQ : List (List Int)} {u : World} (h : Nh.LW w k f al n cap b bx bz bq n1 n2 vF1 vL1 e1 vN1 vF vL e2 vN2 em (.slice (some ⟨g, 0, none⟩) m c) F1 L1 F2 L2 NQ u) (i : Nat) {v : Value} {l : List Int} (hv : Nf.Row u (Nh.Kd b bx bz bq (.slice (some ⟨g, 0, none⟩) m c)) v l) : Nh.LW w k f al n cap b bx bz bq n1 n2 vF1 vL1 e1 vN1 vF vL e2 vN2 em (.slice (some ⟨g, 0, none⟩) m c) F1 L1 F2 L2 (NQ.set i l) (u.setCell ⟨g, i, none⟩ v) := by
  obtain ⟨rows, h1, h2⟩ := h.nx
  have hg := h.fr g rfl
  have hb := h.hb
  have hm : m = rows.length := by
    obtain ⟨a, c, e, _⟩ := h1.cells
    injection e
  subst hm
  have hn : ¬ Nh.Kd b bx bz bq (.slice (some ⟨g, 0, none⟩) rows.length c) g := fun e => e.2.1 rfl
  have hs := (World.ownsRow.stored h1 i v).1
  have hnd : Rx.Nod (u.setCell ⟨g, i, none⟩ v) w.heap.size k f al n cap := by
    have e0 : (u.setCell ⟨g, i, none⟩ v).heap[w.heap.size]? = u.heap[w.heap.size]? := Below.heap_setCell _ _ _ _ (by simp; omega)
    exact ⟨Ng.nod_same h.nd e0, fun j hj => (World.frozen?_of_block (a := ⟨w.heap.size, j, none⟩) e0).trans (h.nd.frz j hj)⟩
  refine ⟨h.bel.setCell (by simp; omega) _, hnd, h.p2.far (by omega) _, h.pp.far (by omega) _, h.pa.far hg.2.1 _, h.pb.far hg.2.2.1 _, h.pq.far hg.2.2.2 _, h.rf1.set hn _, h.rl1.set hn _, h.rf.set hn _, h.rl.set hn _, ⟨rows.set i v, ?_, (h2.put i hv).set hn _⟩, h.fr, h.hb, h.hx, h.hz, h.hq, h.xz, h.qx, h.qz⟩
  unfold Ng.Own
  rw [List.length_set]
  exact hs
end Go.Proofs.YthapedadnbkgnaaGreat
namespace Go.Proofs.YthapedadnbkgnaaGreat
set_option linter.unusedVariables false
set_option linter.unusedSimpArgs false
open Go.RowKit
structure Nh.QW (w : World) (k : Nat) (f : Nat → Bool) (al : Option Addr) (n cap b bx bz bq : Nat) (n1 n2 : Int) (vF1 vL1 : Value) (e1 : Bool) (vN1 : Value) (vF vL : Value) (e2 : Bool) (vN2 : Value) (em : Bool) (vN : Value) (F1 L1 F2 L2 : List Int) (NQ : List (List Int)) (vFq vLq : Value) (Fq Lq : List Int) (u : World) : Prop where
  bel : Below w.heap.size w u
  nd : Rx.Nod u w.heap.size k f al n cap
  p2 : Nh.PB u (w.heap.size + 1) 0 (.slice none 0 0) (.slice none 0 0) false (.slice none 0 0)
  pp : Nh.PB u b n1 vF1 vL1 e1 vN1
  pa : Nh.PB u bx n1 vF1 vL1 e1 vN
  pb : Nh.PB u bz n2 vF vL e2 vN2
  pq : Nh.PB u bq n2 vFq vLq em vN
  rf1 : Nf.Row u (Nh.Kd b bx bz bq vN) vF1 F1
  rl1 : Nf.Row u (Nh.Kd b bx bz bq vN) vL1 L1
  rf : Nf.Row u (Nh.Kd b bx bz bq vN) vF F2
  rl : Nf.Row u (Nh.Kd b bx bz bq vN) vL L2
  rfq : Nf.Row u (Nh.Kd b bx bz bq vN) vFq Fq
  rlq : Nf.Row u (Nh.Kd b bx bz bq vN) vLq Lq
  nx : ∃ rows, Ng.Own (b + 1) vN rows u ∧ Nh.Rows u (Nh.Kd b bx bz bq vN) rows NQ
  fr : ∀ j, vN.ownBlock = some j → b < j ∧ j ≠ bx ∧ j ≠ bz ∧ j ≠ bq
  hb : w.heap.size + 1 < b
  hx : b < bx
  hz : b < bz
  hq : b < bq
  xz : bx ≠ bz
  qx : bq ≠ bx
  qz : bq ≠ bz
theorem Nh.QW.up {w : World} {k : Nat} {f : Nat → Bool} {al : Option Addr} {n cap b bx bz bq : Nat} {n1 n2 : Int} {vF1 vL1 : Value} {e1 : Bool} {vN1 vF vL : Value} {e2 : Bool} {vN2 : Value} {em : Bool} {vN : Value} {F1 L1 F2 L2 : List Int} {NQ : List (List Int)} {vFq vLq : Value} {Fq Lq : List Int} {u u' : World} (h : Nh.QW w k f al n cap b bx bz bq n1 n2 vF1 vL1 e1 vN1 vF vL e2 vN2 em vN F1 L1 F2 L2 NQ vFq vLq Fq Lq u) (hb : Below u.heap.size u u') : Nh.QW w k f al n cap b bx bz bq n1 n2 vF1 vL1 e1 vN1 vF vL e2 vN2 em vN F1 L1 F2 L2 NQ vFq vLq Fq Lq u' := by
  obtain ⟨rows, h1, h2⟩ := h.nx
  exact ⟨Bs.below_up h.bel hb, h.nd.up hb, h.p2.up hb, h.pp.up hb, h.pa.up hb, h.pb.up hb, h.pq.up hb, h.rf1.up hb, h.rl1.up hb, h.rf.up hb, h.rl.up hb, h.rfq.up hb, h.rlq.up hb, ⟨rows, h1.up hb, h2.up hb⟩, h.fr, h.hb, h.hx, h.hz, h.hq, h.xz, h.qx, h.qz⟩
theorem Nh.QW.wr {w : World} {k : Nat} {f : Nat → Bool} {al : Option Addr} {n cap b bx bz bq : Nat} {n1 n2 : Int} {vF1 vL1 : Value} {e1 : Bool} {vN1 vF vL : Value} {e2 : Bool} {vN2 : Value} {em : Bool} {vN : Value} {F1 L1 F2 L2 : List Int} {NQ : List (List Int)} {vFq vLq : Value} {Fq Lq : List Int} {u : World} (h : Nh.QW w k f al n cap b bx bz bq n1 n2 vF1 vL1 e1 vN1 vF vL e2 vN2 em vN F1 L1 F2 L2 NQ vFq vLq Fq Lq u) (i : Nat) (x : Value) {vFq' vLq' : Value} {Fq' Lq' : List Int} (hp : Nh.PB (u.setCell ⟨bq, i, none⟩ x) bq n2 vFq' vLq' em vN) (h1 : Nf.Row u (Nh.Kd b bx bz bq vN) vFq' Fq') (h2 : Nf.Row u (Nh.Kd b bx bz bq vN) vLq' Lq') : Nh.QW w k f al n cap b bx bz bq n1 n2 vF1 vL1 e1 vN1 vF vL e2 vN2 em vN F1 L1 F2 L2 NQ vFq' vLq' Fq' Lq' (u.setCell ⟨bq, i, none⟩ x) := by
  have hs : ∀ j, j ≠ bq → (u.setCell ⟨bq, i, none⟩ x).heap[j]? = u.heap[j]? := fun j hj => Below.heap_setCell _ _ _ _ hj
  have hr : ∀ {v : Value} {l : List Int}, Nf.Row u (Nh.Kd b bx bz bq vN) v l → Nf.Row (u.setCell ⟨bq, i, none⟩ x) (Nh.Kd b bx bz bq vN) v l := fun h => Nh.row_same h (fun j hj => hs j hj.2.2.2.2)
  obtain ⟨rows, o1, o2⟩ := h.nx
  have e0 := hs w.heap.size (by have := h.hb; have := h.hq; omega)
  refine ⟨h.bel.setCell (by have := h.hb; have := h.hq; simp; omega) _, ⟨Ng.nod_same h.nd e0, fun j hj => (World.frozen?_of_block (a := ⟨w.heap.size, j, none⟩) e0).trans (h.nd.frz j hj)⟩, h.p2.only (hs _ (by have := h.hb; have := h.hq; omega)), h.pp.only (hs _ (by have := h.hq; omega)), h.pa.only (hs _ h.qx.symm), h.pb.only (hs _ h.qz.symm), hp, hr h.rf1, hr h.rl1, hr h.rf, hr h.rl, hr h1, hr h2, ⟨rows, Nh.own_same o1 (fun j hj => hs j (h.fr j hj).2.2.2), o2.same (fun j hj => hs j hj.2.2.2.2)⟩, h.fr, h.hb, h.hx, h.hz, h.hq, h.xz, h.qx, h.qz⟩
theorem Nh.QW.set1 {w : World} {k : Nat} {f : Nat → Bool} {al : Option Addr} {n cap b bx bz bq : Nat} {n1 n2 : Int} {vF1 vL1 : Value} {e1 : Bool} {vN1 vF vL : Value} {e2 : Bool} {vN2 : Value} {em : Bool} {vN : Value} {F1 L1 F2 L2 : List Int} {NQ : List (List Int)} {vFq vLq : Value} {Fq Lq : List Int} {u : World} (h : Nh.QW w k f al n cap b bx bz bq n1 n2 vF1 vL1 e1 vN1 vF vL e2 vN2 em vN F1 L1 F2 L2 NQ vFq vLq Fq Lq u) {v : Value} {l : List Int} (hv : Nf.Row u (Nh.Kd b bx bz bq vN) v l) : Nh.QW w k f al n cap b bx bz bq n1 n2 vF1 vL1 e1 vN1 vF vL e2 vN2 em vN F1 L1 F2 L2 NQ v vLq l Lq (u.setCell ⟨bq, 1, none⟩ v) := h.wr 1 v (h.pq.set1 v) hv h.rlq
theorem Nh.QW.set2 {w : World} {k : Nat} {f : Nat → Bool} {al : Option Addr} {n cap b bx bz bq : Nat} {n1 n2 : Int} {vF1 vL1 : Value} {e1 : Bool} {vN1 vF vL : Value} {e2 : Bool} {vN2 : Value} {em : Bool} {vN : Value} {F1 L1 F2 L2 : List Int} {NQ : List (List Int)} {vFq vLq : Value} {Fq Lq : List Int} {u : World} (h : Nh.QW w k f al n cap b bx bz bq n1 n2 vF1 vL1 e1 vN1 vF vL e2 vN2 em vN F1 L1 F2 L2 NQ vFq vLq Fq Lq u) {v : Value} {l : List Int} (hv : Nf.Row u (Nh.Kd b bx bz bq vN) v l) : Nh.QW w k f al n cap b bx bz bq n1 n2 vF1 vL1 e1 vN1 vF vL e2 vN2 em vN F1 L1 F2 L2 NQ vFq v Fq l (u.setCell ⟨bq, 2, none⟩ v) := h.wr 2 v (h.pq.set2 v) h.rfq hv
theorem Nh.QW.done {w : World} {k : Nat} {f : Nat → Bool} {al : Option Addr} {n cap b bx bz bq : Nat} {n1 : Int} {n2 : Nat} {vF1 vL1 : Value} {e1 : Bool} {vN1 vF vL : Value} {e2 : Bool} {vN2 : Value} {em : Bool} {vN : Value} {F1 L1 F2 L2 : List Int} {NQ : List (List Int)} {vFq vLq : Value} {Fq Lq : List Int} {u : World} (h : Nh.QW w k f al n cap b bx bz bq n1 n2 vF1 vL1 e1 vN1 vF vL e2 vN2 em vN F1 L1 F2 L2 NQ vFq vLq Fq Lq u) : ∃ rows, Nh.CW w k f al n cap b n2 vFq vLq em vN Fq Lq NQ rows (Nh.put u b n2 vFq vLq em vN) := by
  have hs : ∀ j, j ≠ b → (Nh.put u b n2 vFq vLq em vN).heap[j]? = u.heap[j]? := fun j hj => Nh.put_far _ _ _ _ _ _ _ _ hj
  have hr : ∀ {v : Value} {l : List Int}, Nf.Row u (Nh.Kd b bx bz bq vN) v l → Nf.Row (Nh.put u b n2 vFq vLq em vN) (fun k => b < k ∧ some k ≠ vN.ownBlock) v l := fun h => (Nh.row_same h (fun j hj => hs j (by have := hj.1; omega))).mono (fun j hj => ⟨hj.1, hj.2.1⟩)
  obtain ⟨rows, o1, o2⟩ := h.nx
  have e0 := hs w.heap.size (by have := h.hb; omega)
  exact ⟨rows, Nh.put_below h.bel (by have := h.hb; omega) _ _ _ _ _, ⟨Ng.nod_same h.nd e0, fun j hj => (World.frozen?_of_block (a := ⟨w.heap.size, j, none⟩) e0).trans (h.nd.frz j hj)⟩, h.p2.only (hs _ (by have := h.hb; omega)), Nh.put_pb h.pp _ _ _ _ _, hr h.rfq, hr h.rlq, Nh.own_same o1 (fun j hj => hs j (by have := (h.fr j hj).1; omega)), (o2.same (fun j hj => hs j (by have := hj.1; omega))).mono (fun j hj => ⟨hj.1, hj.2.1⟩), h.hb⟩
theorem Nh.CW.out {w : World} {k : Nat} {f : Nat → Bool} {al : Option Addr} {n cap b n1 : Nat} {vF1 vL1 : Value} {e1 : Bool} {vN1 : Value} {F1 L1 : List Int} {N1 : List (List Int)} {rows1 : List Value} {u : World} {x : Rx} (h : Nh.CW w k f al n cap b n1 vF1 vL1 e1 vN1 F1 L1 N1 rows1 u) (hp : Nf.PartIs n1 F1 L1 e1 N1 (Nf.ones x) x.emp (Nf.fst x) (Nf.lst x) (Nf.fol x)) : Nh.OPost w x (.returned (.agg #[.int .i64 n1, vF1, vL1, .bool e1, vN1])) (Nh.put u (w.heap.size + 1) n1 vF1 vL1 e1 vN1) := by
  have hs : ∀ j, j ≠ w.heap.size + 1 → (Nh.put u (w.heap.size + 1) n1 vF1 vL1 e1 vN1).heap[j]? = u.heap[j]? := fun j hj => Nh.put_far _ _ _ _ _ _ _ _ hj
  have hb := h.hb
  refine ⟨n1, vF1, vL1, e1, vN1, F1, L1, N1, rfl, ⟨?_, ?_, rows1, ?_, ?_⟩, hp, Nh.put_below h.bel (by omega) _ _ _ _ _⟩
  · exact (Nh.row_same h.rf (fun j hj => hs j (by have := hj.1; omega))).mono (fun j hj => ⟨by have := hj.1; omega, hj.2⟩)
  · exact (Nh.row_same h.rl (fun j hj => hs j (by have := hj.1; omega))).mono (fun j hj => ⟨by have := hj.1; omega, hj.2⟩)
  · exact World.ownsRow.mono (Nh.own_same h.ow (fun j hj => hs j (by have := (World.ownsRow.lt h.ow j hj).1; omega))) (by omega)
  · exact (h.rw'.same (fun j hj => hs j (by have := hj.1; omega))).mono (fun j hj => ⟨by have := hj.1; omega, hj.2⟩)
end Go.Proofs.YthapedadnbkgnaaGreat
namespace Go.Proofs.YthapedadnbkgnaaGreat
set_option linter.unusedVariables false
set_option linter.unusedSimpArgs false
open Go.RowKit
structure Nh.DD (L : Nat → Bool) : Prop where
  d7 : L 7 = true → L 6 = true
  d13 : L 13 = true → L 7 = true ∧ L 11 = true ∧ L 12 = true
  d14 : L 14 = true → L 13 = true
theorem Nh.DD.on {L : Nat → Bool} (h : Nh.DD L) (j : Nat) (h7 : j = 7 → L 6 = true) (h13 : j = 13 → L 7 = true ∧ L 11 = true ∧ L 12 = true) (h14 : j = 14 → L 13 = true) : Nh.DD (fun i => decide (i = j) || L i) := by
  refine ⟨fun e => ?_, fun e => ?_, fun e => ?_⟩
  · simp only [Bool.or_eq_true, decide_eq_true_eq] at e ⊢
    rcases e with e | e
    · exact .inr (h7 e.symm)
    · exact .inr (h.d7 e)
  · simp only [Bool.or_eq_true, decide_eq_true_eq] at e ⊢
    rcases e with e | e
    · have := h13 e.symm; exact ⟨.inr this.1, .inr this.2.1, .inr this.2.2⟩
    · have := h.d13 e; exact ⟨.inr this.1, .inr this.2.1, .inr this.2.2⟩
  · simp only [Bool.or_eq_true, decide_eq_true_eq] at e ⊢
    rcases e with e | e
    · exact .inr (h14 e.symm)
    · exact .inr (h.d14 e)
structure Nh.W2 (w : World) (k : Nat) (f : Nat → Bool) (al : Option Addr) (n cap b : Nat) (n1 : Nat) (vF1 vL1 : Value) (e1 : Bool) (vN1 : Value) (F1 L1 : List Int) (N1 : List (List Int)) (rows1 : List Value) (y : Rx) (u0 : World) (g : Nh.Gh) (Lst : Nat → Bool) (u : World) : Prop where
  wg : Nh.WG w k f al n cap b n1 vF1 vL1 e1 vN1 F1 L1 N1 rows1 y u0.heap.size g Lst u
  bl : Below u0.heap.size u0 u
  dd : Nh.DD Lst
theorem Nh.W2.on {w : World} {k : Nat} {f : Nat → Bool} {al : Option Addr} {n cap b n1 : Nat} {vF1 vL1 : Value} {e1 : Bool} {vN1 : Value} {F1 L1 : List Int} {N1 : List (List Int)} {rows1 : List Value} {y : Rx} {u0 : World} {g : Nh.Gh} {Lst : Nat → Bool} {u : World} (h : Nh.W2 w k f al n cap b n1 vF1 vL1 e1 vN1 F1 L1 N1 rows1 y u0 g Lst u) (j : Nat) (h6 : j ≠ 6) (h7 : j ≠ 7) (h11 : j ≠ 11) (h12 : j ≠ 12) (h13 : j ≠ 13) (h14 : j ≠ 14) : Nh.W2 w k f al n cap b n1 vF1 vL1 e1 vN1 F1 L1 N1 rows1 y u0 g (fun i => decide (i = j) || Lst i) u := ⟨h.wg.on j h6 h7 h11 h12 h13 h14, h.bl, h.dd.on j (fun e => absurd e h7) (fun e => absurd e h13) (fun e => absurd e h14)⟩
structure Nh.AB (w : World) (k : Nat) (f : Nat → Bool) (al : Option Addr) (n cap b : Nat) (n1 : Nat) (vF1 vL1 : Value) (e1 : Bool) (vN1 : Value) (F1 L1 : List Int) (N1 : List (List Int)) (rows1 : List Value) (y : Rx) (K bx bz : Nat) (n2 : Nat) (vF vL vN : Value) (e2 : Bool) (vN2 : Value) (rs : List Value) (F2 L2 : List Int) (N2 : List (List Int)) (u : World) : Prop where
  cw : Nh.CW w k f al n cap b n1 vF1 vL1 e1 vN1 F1 L1 N1 rows1 u
  pa : Nh.PB u bx n1 vF1 vL1 e1 vN
  pb : Nh.PB u bz (n2 + n1 : Nat) vF vL e2 vN2
  pt : Nf.PartIs n2 F2 L2 e2 N2 (Nf.ones y) y.emp (Nf.fst y) (Nf.lst y) (Nf.fol y)
  rf : Nf.Row u (fun k => K ≤ k ∧ some k ≠ vN.ownBlock ∧ k ≠ bx ∧ k ≠ bz) vF (Nf.shift F2 n1)
  rl : Nf.Row u (fun k => K ≤ k ∧ some k ≠ vN.ownBlock ∧ k ≠ bx ∧ k ≠ bz) vL (Nf.shift L2 n1)
  ow : Ng.Own K vN (rows1 ++ rs) u
  rr : Nh.Rows u (fun k => K ≤ k ∧ some k ≠ vN.ownBlock ∧ k ≠ bx ∧ k ≠ bz) rs (N2.map fun l => Nf.shift l n1)
  fr : ∀ k, vN.ownBlock = some k → k ≠ bx ∧ k ≠ bz
  kx : K ≤ bx
  kz : K ≤ bz
  xz : bx ≠ bz
theorem Nh.W2.done {w : World} {k : Nat} {f : Nat → Bool} {al : Option Addr} {n cap b n1 : Nat} {vF1 vL1 : Value} {e1 : Bool} {vN1 : Value} {F1 L1 : List Int} {N1 : List (List Int)} {rows1 : List Value} {y : Rx} {u0 : World} {g : Nh.Gh} {Lst : Nat → Bool} {u : World} (h : Nh.W2 w k f al n cap b n1 vF1 vL1 e1 vN1 F1 L1 N1 rows1 y u0 g Lst u) (h13 : Lst 13 = true) (h14 : Lst 14 = true) : ∃ bx bz n2 vF vL vN e2 vN2 rs F2 L2 N2, g.x = some bx ∧ g.y = some bz ∧ Nh.AB w k f al n cap b n1 vF1 vL1 e1 vN1 F1 L1 N1 rows1 y u0.heap.size bx bz n2 vF vL vN e2 vN2 rs F2 L2 N2 u := by
  obtain ⟨bx, i, vFa, vLa, ea, vNa, vb, hx, hab, pa⟩ := h.wg.sx h13
  obtain ⟨bz, i', vFb, vLb, eb, vNb, va, hz, hab', pb⟩ := h.wg.sy h14
  rw [hab] at hab'
  injection hab' with hab'
  injection hab' with e1' e2'
  subst e1'
  subst e2'
  obtain ⟨n2, vF, vL, vN, e2, vN2, rs, F2, L2, N2, BE⟩ := h.wg.be _ _ hab
  have hea := BE.ea
  have heb := BE.eb
  injection hea with hea
  injection heb with heb
  have q1 := congrArg Array.toList hea
  have q2 := congrArg Array.toList heb
  simp only [List.cons.injEq, and_true, Value.int.injEq, Value.bool.injEq, true_and] at q1 q2
  obtain ⟨a0, a1, a2, a3, a4⟩ := q1
  obtain ⟨b0, b1, b2, b3, b4⟩ := q2
  subst a0; subst a1; subst a2; subst a3; subst a4; subst b0; subst b1; subst b2; subst b3; subst b4
  have hf : ∀ k, Nh.free g k → k ≠ bx ∧ k ≠ bz := fun k hk => ⟨fun e => hk.1 (by rw [e]; exact hx), fun e => hk.2 (by rw [e]; exact hz)⟩
  exact ⟨bx, bz, n2, _, _, _, _, _, rs, F2, L2, N2, hx, hz, h.wg.cw, pa, pb, BE.pt, BE.rf.mono (fun k hk => ⟨hk.1, hk.2.1, hf k hk.2.2⟩), BE.rl.mono (fun k hk => ⟨hk.1, hk.2.1, hf k hk.2.2⟩), BE.ow, BE.rr.mono (fun k hk => ⟨hk.1, hk.2.1, hf k hk.2.2⟩), fun k hk => hf k (BE.fr k hk), (h.wg.gx bx hx).1, (h.wg.gy bz hz).1, fun e => h.wg.xy bx hx (by rw [e]; exact hz)⟩
end Go.Proofs.YthapedadnbkgnaaGreat
namespace Go.Proofs.YthapedadnbkgnaaGreat
set_option linter.unusedVariables false
set_option linter.unusedSimpArgs false
open Go.RowKit
theorem Nh.AB.up {w : World} {k : Nat} {f : Nat → Bool} {al : Option Addr} {n cap b n1 : Nat} {vF1 vL1 : Value} {e1 : Bool} {vN1 : Value} {F1 L1 : List Int} {N1 : List (List Int)} {rows1 : List Value} {y : Rx} {K bx bz n2 : Nat} {vF vL vN : Value} {e2 : Bool} {vN2 : Value} {rs : List Value} {F2 L2 : List Int} {N2 : List (List Int)} {u u' : World} (h : Nh.AB w k f al n cap b n1 vF1 vL1 e1 vN1 F1 L1 N1 rows1 y K bx bz n2 vF vL vN e2 vN2 rs F2 L2 N2 u) (hb : Below u.heap.size u u') : Nh.AB w k f al n cap b n1 vF1 vL1 e1 vN1 F1 L1 N1 rows1 y K bx bz n2 vF vL vN e2 vN2 rs F2 L2 N2 u' :=
  ⟨h.cw.up hb, h.pa.up hb, h.pb.up hb, h.pt, h.rf.up hb, h.rl.up hb, h.ow.up hb, h.rr.up hb, h.fr, h.kx, h.kz, h.xz⟩
theorem Nh.CW.put {w : World} {k : Nat} {f : Nat → Bool} {al : Option Addr} {n cap b n1 : Nat} {vF1 vL1 : Value} {e1 : Bool} {g m c : Nat} {F1 L1 : List Int} {NQ : List (List Int)} {rows : List Value} {u : World} (h : Nh.CW w k f al n cap b n1 vF1 vL1 e1 (.slice (some ⟨g, 0, none⟩) m c) F1 L1 NQ rows u) (i : Nat) {v : Value} {l : List Int} (hv : Nf.Row u (fun k => b < k ∧ some k ≠ (Value.slice (some ⟨g, 0, none⟩) m c).ownBlock) v l) : Nh.CW w k f al n cap b n1 vF1 vL1 e1 (.slice (some ⟨g, 0, none⟩) m c) F1 L1 (NQ.set i l) (rows.set i v) (u.setCell ⟨g, i, none⟩ v) := by
  have h1 := h.ow
  have hg := (World.ownsRow.lt h1 g rfl).1
  have hb := h.hb
  have hm : m = rows.length := by
    obtain ⟨a, c, e, _⟩ := h1.cells
    injection e
  subst hm
  have hn : ¬ (fun k => b < k ∧ some k ≠ (Value.slice (some ⟨g, 0, none⟩) rows.length c).ownBlock) g := fun e => e.2 rfl
  have hs := (World.ownsRow.stored h1 i v).1
  have e0 : (u.setCell ⟨g, i, none⟩ v).heap[w.heap.size]? = u.heap[w.heap.size]? := Below.heap_setCell _ _ _ _ (by simp; omega)
  refine ⟨h.bel.setCell (by simp; omega) _, ⟨Ng.nod_same h.nd e0, fun j hj => (World.frozen?_of_block (a := ⟨w.heap.size, j, none⟩) e0).trans (h.nd.frz j hj)⟩, h.p2.far (by omega) _, h.pb.far (by omega) _, h.rf.set hn _, h.rl.set hn _, ?_, (h.rw'.put i hv).set hn _, h.hb⟩
  unfold Ng.Own
  rw [List.length_set]
  exact hs
theorem Nh.CW.nx {w : World} {k : Nat} {f : Nat → Bool} {al : Option Addr} {n cap b n1 : Nat} {vF1 vL1 : Value} {e1 : Bool} {vN1 : Value} {F1 L1 : List Int} {N1 : List (List Int)} {rows1 : List Value} {u : World} (h : Nh.CW w k f al n cap b n1 vF1 vL1 e1 vN1 F1 L1 N1 rows1 u) : ∃ rows, Ng.Own (b + 1) vN1 rows u ∧ Nh.Rows u (fun k => b < k ∧ some k ≠ vN1.ownBlock) rows N1 := ⟨rows1, h.ow, h.rw'⟩
theorem Nh.CW.kb {w : World} {k : Nat} {f : Nat → Bool} {al : Option Addr} {n cap b n1 : Nat} {vF1 vL1 : Value} {e1 : Bool} {vN1 : Value} {F1 L1 : List Int} {N1 : List (List Int)} {rows1 : List Value} {u : World} (h : Nh.CW w k f al n cap b n1 vF1 vL1 e1 vN1 F1 L1 N1 rows1 u) : ∀ j, u.heap.size ≤ j → b < j ∧ some j ≠ vN1.ownBlock := fun j hj =>
  ⟨by have := h.pb.lt; omega, fun e => by have := (World.ownsRow.lt h.ow j e.symm).2; omega⟩
end Go.Proofs.YthapedadnbkgnaaGreat
namespace Go.Proofs.YthapedadnbkgnaaGreat
set_option linter.unusedVariables false
set_option linter.unusedSimpArgs false
open Go.RowKit
end Go.Proofs.YthapedadnbkgnaaGreat
