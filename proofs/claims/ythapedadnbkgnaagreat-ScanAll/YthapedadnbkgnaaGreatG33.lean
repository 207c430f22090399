/- What the document's of answers of a STAR, walked. What the document's of answers of a NIL and of a ONE; of any expression. What the document's Sets answers, walked. The document's machine, rule by rule: plain facts. The document's machine in memory, while it is built. The document's Build: facts about its drawn regions. What the document's Step answers, walked. What the document's Run answers, walked. What the document's Build answers, walked. The law NfaSteps, walked. -/
import Derived.Test.YthapedadnbkgnaaGreatG32
import Derived.Test.YthapedadnbkgnaaGreatG9
import Derived.Deep.Onto
import Derived.Test.YthapedadnbkgnaaGreatG16
import Derived.Test.YthapedadnbkgnaaGreatG17
import Derived.Test.YthapedadnbkgnaaGreatG12
import Derived.Test.YthapedadnbkgnaaGreatG23
namespace Go.Proofs.YthapedadnbkgnaaGreat
set_option linter.unusedVariables false
set_option linter.unusedSimpArgs false
open Go.RowKit
def Nh.Ks (H b : Nat) (vN : Value) (k : Nat) : Prop := H + 1 < k ∧ some k ≠ vN.ownBlock ∧ k ≠ b
structure Nh.SW (w : World) (k : Nat) (f : Nat → Bool) (al : Option Addr) (n cap b n1 : Nat) (vF vL vN : Value) (F L : List Int) (NQ : List (List Int)) (u : World) : Prop where
  bel : Below w.heap.size w u
  nd : Rx.Nod u w.heap.size k f al n cap
  p2 : Nh.PB u (w.heap.size + 1) 0 (.slice none 0 0) (.slice none 0 0) false (.slice none 0 0)
  pb : Nh.PB u b n1 vF vL true vN
  rf : Nf.Row u (Nh.Ks w.heap.size b vN) vF F
  rl : Nf.Row u (Nh.Ks w.heap.size b vN) vL L
  nx : ∃ rows, Ng.Own (w.heap.size + 2) vN rows u ∧ Nh.Rows u (Nh.Ks w.heap.size b vN) rows NQ
  fr : ∀ j, vN.ownBlock = some j → w.heap.size + 1 < j ∧ j ≠ b
  hb : w.heap.size + 1 < b
theorem Nh.SW.up {w : World} {k : Nat} {f : Nat → Bool} {al : Option Addr} {n cap b n1 : Nat} {vF vL vN : Value} {F L : List Int} {NQ : List (List Int)} {u u' : World} (h : Nh.SW w k f al n cap b n1 vF vL vN F L NQ u) (hb : Below u.heap.size u u') : Nh.SW w k f al n cap b n1 vF vL vN F L NQ u' := by
  obtain ⟨rows, h1, h2⟩ := h.nx
  exact ⟨Bs.below_up h.bel hb, h.nd.up hb, h.p2.up hb, h.pb.up hb, h.rf.up hb, h.rl.up hb, ⟨rows, h1.up hb, h2.up hb⟩, h.fr, h.hb⟩
theorem Nh.SW.put {w : World} {k : Nat} {f : Nat → Bool} {al : Option Addr} {n cap b n1 : Nat} {vF vL : Value} {g m c : Nat} {F L : List Int} {NQ : List (List Int)} {u : World} (h : Nh.SW w k f al n cap b n1 vF vL (.slice (some ⟨g, 0, none⟩) m c) F L NQ u) (i : Nat) {v : Value} {l : List Int} (hv : Nf.Row u (Nh.Ks w.heap.size b (.slice (some ⟨g, 0, none⟩) m c)) v l) : Nh.SW w k f al n cap b n1 vF vL (.slice (some ⟨g, 0, none⟩) m c) F L (NQ.set i l) (u.setCell ⟨g, i, none⟩ v) := by
  obtain ⟨rows, h1, h2⟩ := h.nx
  have hg := h.fr g rfl
  have hm : m = rows.length := by
    obtain ⟨a, c, e, _⟩ := h1.cells
    injection e
  subst hm
  have hn : ¬ Nh.Ks w.heap.size b (.slice (some ⟨g, 0, none⟩) rows.length c) g := fun e => e.2.1 rfl
  have hs := (World.ownsRow.stored h1 i v).1
  have e0 : (u.setCell ⟨g, i, none⟩ v).heap[w.heap.size]? = u.heap[w.heap.size]? := Below.heap_setCell _ _ _ _ (by simp; omega)
  refine ⟨h.bel.setCell (by simp; omega) _, ⟨Ng.nod_same h.nd e0, fun j hj => (World.frozen?_of_block (a := ⟨w.heap.size, j, none⟩) e0).trans (h.nd.frz j hj)⟩, h.p2.far (by omega) _, h.pb.far hg.2 _, h.rf.set hn _, h.rl.set hn _, ⟨rows.set i v, ?_, (h2.put i hv).set hn _⟩, h.fr, h.hb⟩
  unfold Ng.Own
  rw [List.length_set]
  exact hs
theorem Nh.SW.ks {w : World} {k : Nat} {f : Nat → Bool} {al : Option Addr} {n cap b n1 : Nat} {vF vL vN : Value} {F L : List Int} {NQ : List (List Int)} {u : World} (h : Nh.SW w k f al n cap b n1 vF vL vN F L NQ u) : ∀ j, u.heap.size ≤ j → Nh.Ks w.heap.size b vN j := fun j hj => by
  obtain ⟨rows, h1, _⟩ := h.nx
  have := h.pb.lt
  have := h.hb
  exact ⟨by omega, fun e => by have := (World.ownsRow.lt h1 j e.symm).2; omega, by omega⟩
theorem Nh.SW.out {w : World} {k : Nat} {f : Nat → Bool} {al : Option Addr} {n cap b n1 : Nat} {vF vL vN : Value} {F L : List Int} {NQ : List (List Int)} {u : World} {x : Rx} (h : Nh.SW w k f al n cap b n1 vF vL vN F L NQ u) (hp : Nf.PartIs n1 F L true NQ (Nf.ones x) x.emp (Nf.fst x) (Nf.lst x) (Nf.fol x)) : Nh.OPost w x (.returned (.agg #[.int .i64 n1, vF, vL, .bool true, vN])) (Nh.put u (w.heap.size + 1) n1 vF vL true vN) := by
  have hs : ∀ j, j ≠ w.heap.size + 1 → (Nh.put u (w.heap.size + 1) n1 vF vL true vN).heap[j]? = u.heap[j]? := fun j hj => Nh.put_far _ _ _ _ _ _ _ _ hj
  obtain ⟨rows, h1, h2⟩ := h.nx
  refine ⟨n1, vF, vL, true, vN, F, L, NQ, rfl, ⟨?_, ?_, rows, ?_, ?_⟩, hp, Nh.put_below h.bel (by omega) _ _ _ _ _⟩
  · exact (Nh.row_same h.rf (fun j hj => hs j (by have := hj.1; omega))).mono (fun j hj => ⟨by have := hj.1; omega, hj.2.1⟩)
  · exact (Nh.row_same h.rl (fun j hj => hs j (by have := hj.1; omega))).mono (fun j hj => ⟨by have := hj.1; omega, hj.2.1⟩)
  · exact World.ownsRow.mono (Nh.own_same h1 (fun j hj => hs j (by have := (World.ownsRow.lt h1 j hj).1; omega))) (by omega)
  · exact (h2.same (fun j hj => hs j (by have := hj.1; omega))).mono (fun j hj => ⟨by have := hj.1; omega, hj.2.1⟩)
end Go.Proofs.YthapedadnbkgnaaGreat
namespace Go.Proofs.YthapedadnbkgnaaGreat
set_option linter.unusedVariables false
set_option linter.unusedSimpArgs false
open Go.RowKit
end Go.Proofs.YthapedadnbkgnaaGreat
namespace Go.Proofs.YthapedadnbkgnaaGreat
set_option linter.unusedVariables false
set_option linter.unusedSimpArgs false
open Go.RowKit
theorem Sr.Own.mono {base base' : Nat} {v : Value} {fs : List (Nat → Bool)} {w : World} (h : Sr.Own base v fs w) (hb : base' ≤ base) : Sr.Own base' v fs w := ⟨h.1.mono hb, h.2⟩
end Go.Proofs.YthapedadnbkgnaaGreat
namespace Go.Proofs.YthapedadnbkgnaaGreat
set_option linter.unusedVariables false
set_option linter.unusedSimpArgs false
theorem Nr.rfst_snoc (y : Rx) : ∀ (xs : List Rx) (r p : Nat), Nf.rfst (xs ++ [y]) r p ↔ Nf.rfst xs r p ∨ (r = xs.length ∧ ∃ q, p = Nf.onesL xs + q ∧ Nf.fst y q)
  | [], 0, p => by simp [Nf.rfst, Nf.onesL]
  | [], r + 1, p => by simp [Nf.rfst]
  | x :: xs, 0, p => by simp [Nf.rfst]
  | x :: xs, r + 1, p => by
    simp only [List.cons_append, Nf.rfst, List.length_cons, Nf.onesL]
    constructor
    · rintro ⟨q, e, h⟩
      rcases (Nr.rfst_snoc y xs r q).1 h with h | ⟨h1, q', h2, h3⟩
      · exact .inl ⟨q, e, h⟩
      · exact .inr ⟨by omega, q', by omega, h3⟩
    · rintro (⟨q, e, h⟩ | ⟨h1, q', h2, h3⟩)
      · exact ⟨q, e, (Nr.rfst_snoc y xs r q).2 (.inl h)⟩
      · exact ⟨Nf.onesL xs + q', by omega, (Nr.rfst_snoc y xs r _).2 (.inr ⟨by omega, q', rfl, h3⟩)⟩
theorem Nr.rlst_snoc (y : Rx) : ∀ (xs : List Rx) (r p : Nat), Nf.rlst (xs ++ [y]) r p ↔ Nf.rlst xs r p ∨ (r = xs.length ∧ ∃ q, p = Nf.onesL xs + q ∧ Nf.lst y q)
  | [], 0, p => by simp [Nf.rlst, Nf.onesL]
  | [], r + 1, p => by simp [Nf.rlst]
  | x :: xs, 0, p => by simp [Nf.rlst]
  | x :: xs, r + 1, p => by
    simp only [List.cons_append, Nf.rlst, List.length_cons, Nf.onesL]
    constructor
    · rintro ⟨q, e, h⟩
      rcases (Nr.rlst_snoc y xs r q).1 h with h | ⟨h1, q', h2, h3⟩
      · exact .inl ⟨q, e, h⟩
      · exact .inr ⟨by omega, q', by omega, h3⟩
    · rintro (⟨q, e, h⟩ | ⟨h1, q', h2, h3⟩)
      · exact ⟨q, e, (Nr.rlst_snoc y xs r q).2 (.inl h)⟩
      · exact ⟨Nf.onesL xs + q', by omega, (Nr.rlst_snoc y xs r _).2 (.inr ⟨by omega, q', rfl, h3⟩)⟩
theorem Nr.remp_snoc (y : Rx) : ∀ (xs : List Rx) (r : Nat), Nf.remp (xs ++ [y]) r ↔ Nf.remp xs r ∨ (r = xs.length ∧ y.emp = true)
  | [], 0 => by simp [Nf.remp]
  | [], r + 1 => by simp [Nf.remp]
  | x :: xs, 0 => by simp [Nf.remp]
  | x :: xs, r + 1 => by
    simp only [List.cons_append, Nf.remp, List.length_cons, Nr.remp_snoc y xs r]
    constructor <;> rintro (h | ⟨h1, h2⟩) <;> first | exact .inl h | exact .inr ⟨by omega, h2⟩
structure Nr.Sp (xs : List Rx) (fs : List (Nat → Bool)) (Ls : List (List Int × List Int)) (so sr : List Int) : Prop where
  fs : fs = Rx.setsL xs
  len : Ls.length = Nf.onesL xs
  af : ∀ k (h : k < Ls.length), Nf.Rise Ls[k].1 (Nf.folA xs k) ∧ Nf.Rise Ls[k].2 (fun q => Nf.rlst xs q k)
  so : Nf.Rise so (fun p => ∃ r, Nf.rfst xs r p)
  sr : Nf.Rise sr (Nf.remp xs)
def Nr.afs (N : List (List Int)) (L : List Int) (at' i n : Nat) : List (List Int × List Int) := (List.range n).map fun k => (Nf.shift (N.getD k []) at', if (k : Int) ∈ L then [(i : Int)] else [])
theorem Nr.afs_len (N : List (List Int)) (L : List Int) (at' i n : Nat) : (Nr.afs N L at' i n).length = n := by simp [Nr.afs]
theorem Nr.setsL_snoc (y : Rx) : ∀ xs : List Rx, Rx.setsL (xs ++ [y]) = Rx.setsL xs ++ Rx.sets y
  | [] => by simp [Rx.setsL]
  | x :: r => by simp only [List.cons_append, Rx.setsL, Nr.setsL_snoc y r, List.append_assoc]
theorem Nr.Sp.snoc {xs : List Rx} {fs : List (Nat → Bool)} {Ls : List (List Int × List Int)} {so sr : List Int} (h : Nr.Sp xs fs Ls so sr) {y : Rx} {n : Nat} {F L : List Int} {em : Bool} {N : List (List Int)} (hp : Nf.PartIs n F L em N (Nf.ones y) y.emp (Nf.fst y) (Nf.lst y) (Nf.fol y)) : Nr.Sp (xs ++ [y]) (fs ++ Rx.sets y) (Ls ++ Nr.afs N L (Nf.onesL xs) xs.length n) (Nf.union so (Nf.shift F (Nf.onesL xs))) (Nf.union sr (if em = true then [(xs.length : Int)] else [])) := by
  refine ⟨by rw [h.fs, Nr.setsL_snoc], by rw [List.length_append, Nr.afs_len, h.len, Nf.onesL_snoc, hp.num], fun k hk => ?_, ?_, ?_⟩
  · rw [List.length_append, Nr.afs_len] at hk
    by_cases e : k < Ls.length
    · rw [List.getElem_append_left e]
      have hk2 : k < Nf.onesL xs := by rw [← h.len]; exact e
      refine ⟨(h.af k e).1.congr fun q => ?_, (h.af k e).2.congr fun q => ?_⟩
      · rw [Nf.folA_snoc]
        exact ⟨fun h => .inl h, fun h => by
          rcases h with h | ⟨p', q', e1, _, _⟩
          · exact h
          · omega⟩
      · rw [Nr.rlst_snoc]
        exact ⟨fun h => .inl h, fun h => by
          rcases h with h | ⟨_, q', e1, _⟩
          · exact h
          · omega⟩
    · have hl := h.len
      obtain ⟨j, rfl⟩ : ∃ j, k = Nf.onesL xs + j := ⟨k - Nf.onesL xs, by omega⟩
      have hj : j < n := by omega
      have hjN : j < N.length := by rw [hp.len, ← hp.num]; exact hj
      rw [List.getElem_append_right (by omega)]
      have e2 : (Nr.afs N L (Nf.onesL xs) xs.length n)[Nf.onesL xs + j - Ls.length]'(by rw [Nr.afs_len]; omega) = (Nf.shift (N.getD j []) (Nf.onesL xs), if (j : Int) ∈ L then [(xs.length : Int)] else []) := by
        have e3 : Nf.onesL xs + j - Ls.length = j := by omega
        simp [Nr.afs, e3]
      rw [e2]
      have e4 : N.getD j [] = N[j] := by rw [List.getD_eq_getElem?_getD, List.getElem?_eq_getElem hjN]; rfl
      refine ⟨?_, ?_⟩
      · simp only [e4]
        refine (Nf.rise_shift (hp.nxt j hjN) (Nf.onesL xs)).congr fun q => ?_
        rw [Nf.folA_snoc]
        constructor
        · rintro ⟨q', e5, h5⟩
          exact .inr ⟨j, q', rfl, e5, h5⟩
        · rintro (h5 | ⟨p', q', e5, e6, h6⟩)
          · have := (Nf.folA_lt _ _ _ h5).1; omega
          · have : p' = j := by omega
            subst this
            exact ⟨q', e6, h6⟩
      · have key : ∀ q, Nf.rlst (xs ++ [y]) q (Nf.onesL xs + j) ↔ (j : Int) ∈ L ∧ q = xs.length := fun q => by
          rw [Nr.rlst_snoc, hp.lst.is j]
          constructor
          · rintro (h5 | ⟨h5, q', e5, h6⟩)
            · have := (Ng.rlst_lt _ _ _ h5).2; omega
            · have : q' = j := by omega
              subst this
              exact ⟨h6, h5⟩
          · rintro ⟨h5, h6⟩
            exact .inr ⟨h6, j, rfl, h5⟩
        by_cases hm : (j : Int) ∈ L
        · simp only [if_pos hm]
          exact (Nf.rise_sole xs.length).congr fun q => by rw [key]; exact ⟨fun h => ⟨hm, h⟩, fun h => h.2⟩
        · simp only [if_neg hm]
          exact Nf.rise_nil fun q h5 => hm ((key q).1 h5).1
  · refine (Nf.rise_union h.so (Nf.rise_shift hp.fst (Nf.onesL xs))).congr fun p => ?_
    constructor
    · rintro (⟨r, h5⟩ | ⟨q, e5, h5⟩)
      · exact ⟨r, (Nr.rfst_snoc y xs r p).2 (.inl h5)⟩
      · exact ⟨xs.length, (Nr.rfst_snoc y xs _ p).2 (.inr ⟨rfl, q, e5, h5⟩)⟩
    · rintro ⟨r, h5⟩
      rcases (Nr.rfst_snoc y xs r p).1 h5 with h5 | ⟨_, q, e5, h5⟩
      · exact .inl ⟨r, h5⟩
      · exact .inr ⟨q, e5, h5⟩
  · have hb : Nf.Rise (if em = true then [(xs.length : Int)] else []) (fun q => q = xs.length ∧ em = true) := by
      cases em
      · exact Nf.rise_nil fun q h => by simp at h
      · exact (Nf.rise_sole xs.length).congr fun q => by simp
    refine (Nf.rise_union h.sr hb).congr fun q => ?_
    rw [Nr.remp_snoc, hp.emp]
end Go.Proofs.YthapedadnbkgnaaGreat
namespace Go.Proofs.YthapedadnbkgnaaGreat
set_option linter.unusedVariables false
set_option linter.unusedSimpArgs false
open Go.RowKit
def Nr.cells (l : List (Value × Value)) : List Value := l.flatMap fun p => [p.1, p.2]
theorem Nr.cells_append (a b : List (Value × Value)) : Nr.cells (a ++ b) = Nr.cells a ++ Nr.cells b := by simp [Nr.cells]
def Nr.K (r : Nat) (vS vA : Value) (k : Nat) : Prop := r < k ∧ some k ≠ vS.ownBlock ∧ some k ≠ vA.ownBlock
structure Nr.MW (w : World) (r : Nat) (vS vA v2 v3 : Value) (fs : List (Nat → Bool)) (As : List (Value × Value)) (Ls : List (List Int × List Int)) (so sr : List Int) (u : World) : Prop where
  bel : Below w.heap.size w u
  c0 : u.cell? ⟨r, 0, none⟩ = some vS
  c1 : u.cell? ⟨r, 1, none⟩ = some vA
  c2 : u.cell? ⟨r, 2, none⟩ = some v2
  c3 : u.cell? ⟨r, 3, none⟩ = some v3
  z : ∀ i, i < 4 → u.frozen? ⟨r, i, none⟩ = false
  hr : w.heap.size ≤ r
  os : Sr.Own (r + 1) vS fs u
  oa : u.ownsRow (r + 1) 36 2 vA As.length (Nr.cells As)
  sa : ∀ k, vS.ownBlock = some k → vA.ownBlock ≠ some k
  la : As.length = Ls.length
  ra : ∀ i (h : i < As.length) (h' : i < Ls.length), Nf.Row u (Nr.K r vS vA) As[i].1 Ls[i].1 ∧ Nf.Row u (Nr.K r vS vA) As[i].2 Ls[i].2
  r2 : Nf.Row u (Nr.K r vS vA) v2 so
  r3 : Nf.Row u (Nr.K r vS vA) v3 sr
theorem Nr.MW.lt {w : World} {r : Nat} {vS vA v2 v3 : Value} {fs : List (Nat → Bool)} {As : List (Value × Value)} {Ls : List (List Int × List Int)} {so sr : List Int} {u : World} (h : Nr.MW w r vS vA v2 v3 fs As Ls so sr u) : r < u.heap.size := World.block_lt_of_cell? u _ h.c0
theorem Nr.MW.up {w : World} {r : Nat} {vS vA v2 v3 : Value} {fs : List (Nat → Bool)} {As : List (Value × Value)} {Ls : List (List Int × List Int)} {so sr : List Int} {u u' : World} (h : Nr.MW w r vS vA v2 v3 fs As Ls so sr u) (hb : Below u.heap.size u u') : Nr.MW w r vS vA v2 v3 fs As Ls so sr u' :=
  ⟨Bs.below_up h.bel hb, Bs.cell_up hb h.c0, Bs.cell_up hb h.c1, Bs.cell_up hb h.c2, Bs.cell_up hb h.c3, fun i hi => by rw [hb.frozen h.lt]; exact h.z i hi, h.hr, h.os.up hb, Bs.row_up h.oa hb, h.sa, h.la, fun i h1 h2 => ⟨(h.ra i h1 h2).1.up hb, (h.ra i h1 h2).2.up hb⟩, h.r2.up hb, h.r3.up hb⟩
theorem Nr.MW.sb {w : World} {r : Nat} {vS vA v2 v3 : Value} {fs : List (Nat → Bool)} {As : List (Value × Value)} {Ls : List (List Int × List Int)} {so sr : List Int} {u : World} (h : Nr.MW w r vS vA v2 v3 fs As Ls so sr u) : ∀ k, vS.ownBlock = some k → r < k ∧ k < u.heap.size := fun k hk => by have := World.ownsRow.lt h.os.1 k hk; omega
theorem Nr.MW.ab {w : World} {r : Nat} {vS vA v2 v3 : Value} {fs : List (Nat → Bool)} {As : List (Value × Value)} {Ls : List (List Int × List Int)} {so sr : List Int} {u : World} (h : Nr.MW w r vS vA v2 v3 fs As Ls so sr u) : ∀ k, vA.ownBlock = some k → r < k ∧ k < u.heap.size := fun k hk => by have := World.ownsRow.lt h.oa k hk; omega
theorem Nr.MW.k {w : World} {r : Nat} {vS vA v2 v3 : Value} {fs : List (Nat → Bool)} {As : List (Value × Value)} {Ls : List (List Int × List Int)} {so sr : List Int} {u : World} (h : Nr.MW w r vS vA v2 v3 fs As Ls so sr u) : ∀ k, u.heap.size ≤ k → Nr.K r vS vA k := fun k hk => by
  have := h.lt
  exact ⟨by omega, fun e => by have := (h.sb k e.symm).2; omega, fun e => by have := (h.ab k e.symm).2; omega⟩
structure Nr.Sm (r : Nat) (vS vA : Value) (u u' : World) : Prop where
  size : u.heap.size ≤ u'.heap.size
  same : ∀ k, k < u.heap.size → k ≠ r → some k ≠ vS.ownBlock → some k ≠ vA.ownBlock → u'.heap[k]? = u.heap[k]?
def Nr.Nx (v v' : Value) (n : Nat) : Prop := ∀ k, v'.ownBlock = some k → v.ownBlock = some k ∨ n ≤ k
theorem Nr.nx_refl (v : Value) (n : Nat) : Nr.Nx v v n := fun _ h => .inl h
theorem Nr.k_turn {r : Nat} {vS vA vS' vA' : Value} {n k : Nat} (h : Nr.K r vS vA k) (hk : k < n) (h1 : Nr.Nx vS vS' n) (h2 : Nr.Nx vA vA' n) : Nr.K r vS' vA' k :=
  ⟨h.1, fun e => by rcases h1 k e.symm with e1 | e1; exact h.2.1 e1.symm; omega, fun e => by rcases h2 k e.symm with e1 | e1; exact h.2.2 e1.symm; omega⟩
theorem Nr.row_turn {r : Nat} {vS vA vS' vA' : Value} {u u' : World} {v : Value} {l : List Int} (h : Nf.Row u (Nr.K r vS vA) v l) (hs : Nr.Sm r vS vA u u') (h1 : Nr.Nx vS vS' u.heap.size) (h2 : Nr.Nx vA vA' u.heap.size) : Nf.Row u' (Nr.K r vS' vA') v l :=
  (Nh.row_same h.lt (fun k hk => hs.same k hk.2 (by have := hk.1.1; omega) hk.1.2.1 hk.1.2.2)).mono (fun k hk => Nr.k_turn hk.1 hk.2 h1 h2)
structure Nr.PW (r b n : Nat) (vF vL : Value) (em : Bool) (vN : Value) (F L : List Int) (N : List (List Int)) (rows : List Value) (vS vA : Value) (u : World) : Prop where
  pb : Nh.PB u b n vF vL em vN
  rf : Nf.Row u (Nr.K r vS vA) vF F
  rl : Nf.Row u (Nr.K r vS vA) vL L
  ow : Ng.Own (r + 1) vN rows u
  rr : Nh.Rows u (Nr.K r vS vA) rows N
  fr : ∀ k, vN.ownBlock = some k → Nr.K r vS vA k
  kb : Nr.K r vS vA b
theorem Nr.PW.up {r b n : Nat} {vF vL : Value} {em : Bool} {vN : Value} {F L : List Int} {N : List (List Int)} {rows : List Value} {vS vA : Value} {u u' : World} (h : Nr.PW r b n vF vL em vN F L N rows vS vA u) (hb : Below u.heap.size u u') : Nr.PW r b n vF vL em vN F L N rows vS vA u' :=
  ⟨h.pb.up hb, h.rf.up hb, h.rl.up hb, h.ow.up hb, h.rr.up hb, h.fr, h.kb⟩
theorem Nr.PW.turn {r b n : Nat} {vF vL : Value} {em : Bool} {vN : Value} {F L : List Int} {N : List (List Int)} {rows : List Value} {vS vA vS' vA' : Value} {u u' : World} (h : Nr.PW r b n vF vL em vN F L N rows vS vA u) (hs : Nr.Sm r vS vA u u') (h1 : Nr.Nx vS vS' u.heap.size) (h2 : Nr.Nx vA vA' u.heap.size) : Nr.PW r b n vF vL em vN F L N rows vS' vA' u' := by
  have at' : ∀ k, k < u.heap.size → Nr.K r vS vA k → u'.heap[k]? = u.heap[k]? := fun k hk hK => hs.same k hk (by have := hK.1; omega) hK.2.1 hK.2.2
  exact ⟨h.pb.only (at' b h.pb.lt h.kb), Nr.row_turn h.rf hs h1 h2, Nr.row_turn h.rl hs h1 h2, Nh.own_same h.ow (fun k hk => at' k (World.ownsRow.lt h.ow k hk).2 (h.fr k hk)), ⟨h.rr.1, fun i a b => Nr.row_turn (h.rr.2 i a b) hs h1 h2⟩, fun k hk => Nr.k_turn (h.fr k hk) (World.ownsRow.lt h.ow k hk).2 h1 h2, Nr.k_turn h.kb h.pb.lt h1 h2⟩
theorem Nr.sm_after {w : World} {r : Nat} {vS vA v2 v3 : Value} {fs : List (Nat → Bool)} {As : List (Value × Value)} {Ls : List (List Int × List Int)} {so sr : List Int} {u u' : World} (h : Nr.MW w r vS vA v2 v3 fs As Ls so sr u) {i : Nat} (hg : u.grownBy u' vA.ownBlock ∨ u.grownBy u' vS.ownBlock) (v : Value) : Nr.Sm r vS vA u (u'.setCell ⟨r, i, none⟩ v) :=
  ⟨by rcases hg with hg | hg <;> simpa using hg.size, fun k hk h1 h2 h3 => by
    rw [Below.heap_setCell _ _ _ _ h1]
    rcases hg with hg | hg
    · exact hg.block k hk h3
    · exact hg.block k hk h2⟩
theorem Nr.bel_after {w u u' : World} {r i : Nat} {own : Option Nat} (hb : Below w.heap.size w u) (hr : w.heap.size ≤ r) (ho : ∀ k, own = some k → r < k) (hg : u.grownBy u' own) (v : Value) : Below w.heap.size w (u'.setCell ⟨r, i, none⟩ v) :=
  (hb.grown hg hb.size (fun k hk => by have := ho k hk; omega)).setCell hr v
theorem Nr.MW.after {w : World} {r : Nat} {vS vA v2 v3 : Value} {fs : List (Nat → Bool)} {As : List (Value × Value)} {Ls : List (List Int × List Int)} {so sr : List Int} {u u' : World} (h : Nr.MW w r vS vA v2 v3 fs As Ls so sr u) {g m cap : Nat} {f1 f2 : Value} {l1 l2 : List Int} (q1 : Nf.Row u (Nr.K r vS vA) f1 l1) (q2 : Nf.Row u (Nr.K r vS vA) f2 l2)
    (hg : u.grownBy u' vA.ownBlock) (ho : u'.ownsRow (r + 1) 36 2 (.slice (some ⟨g, 0, none⟩) m cap) (As.length + 1) (Nr.cells As ++ [f1, f2])) (hl : vA.ownBlock = some g ∨ g = u.heap.size) :
    Nr.MW w r vS (.slice (some ⟨g, 0, none⟩) m cap) v2 v3 fs (As ++ [(f1, f2)]) (Ls ++ [(l1, l2)]) so sr (u'.setCell ⟨r, 1, none⟩ (.slice (some ⟨g, 0, none⟩) m cap)) := by
  have hs := Nr.sm_after h (i := 1) (.inl hg) (.slice (some ⟨g, 0, none⟩) m cap)
  have hrA : ¬ vA.ownBlock = some r := fun e => by have := (h.ab r e).1; omega
  have n1 : Nr.Nx vA (.slice (some ⟨g, 0, none⟩) m cap) u.heap.size := fun k hk => by
    simp only [Value.ownBlock] at hk
    injection hk with hk
    subst hk
    rcases hl with e | e
    · exact .inl e
    · exact .inr (by omega)
  have hgr : g ≠ r := fun e => by
    subst e
    rcases hl with e | e
    · exact hrA e
    · have := h.lt; omega
  have cc : ∀ {i : Nat} {x : Value}, u.cell? ⟨r, i, none⟩ = some x → u'.cell? ⟨r, i, none⟩ = some x := fun hx => hg.cell hx (fun e => hrA e.symm)
  have d0 := cc h.c0; have d1 := cc h.c1; have d2 := cc h.c2; have d3 := cc h.c3
  refine ⟨Nr.bel_after h.bel h.hr (fun k hk => (h.ab k hk).1) hg _, by simp [go_sem, d0], by simp [go_sem, d1], by simp [go_sem, d2], by simp [go_sem, d3], fun i hi => ?_, h.hr, ⟨?_, h.os.2⟩, ?_, ?_, by simp [h.la], fun i h1 h2 => ?_, Nr.row_turn h.r2 hs (Nr.nx_refl _ _) n1, Nr.row_turn h.r3 hs (Nr.nx_refl _ _) n1⟩
  · have e1 : u'.frozen? ⟨r, i, none⟩ = false := by rw [(Ng.Only.of_grown hg).frozen h.lt hrA]; exact h.z i hi
    simpa [go_sem] using e1
  · exact ownsRow_setCell_other ((Ng.Only.of_grown hg).row h.os.1 (fun k hk e => h.sa k hk e)) (fun e => by have := (h.sb r e).1; omega) _
  · rw [List.length_append, Nr.cells_append]
    exact ownsRow_setCell_other ho (by simp only [Value.ownBlock]; exact fun e => hgr (by injection e)) _
  · intro k hk e
    simp only [Value.ownBlock] at e
    injection e with e
    subst e
    rcases hl with e | e
    · exact h.sa _ hk e
    · have := (h.sb _ hk).2; omega
  · by_cases e : i < As.length
    · have e' : i < Ls.length := by rw [← h.la]; exact e
      simp only [List.getElem_append_left e, List.getElem_append_left e']
      exact ⟨Nr.row_turn (h.ra i e e').1 hs (Nr.nx_refl _ _) n1, Nr.row_turn (h.ra i e e').2 hs (Nr.nx_refl _ _) n1⟩
    · have h0 : i - As.length = 0 := by simp at h1; omega
      have h0' : i - Ls.length = 0 := by rw [← h.la]; exact h0
      simp only [List.getElem_append_right (show As.length ≤ i by omega), List.getElem_append_right (show Ls.length ≤ i by rw [← h.la]; omega), h0, h0']
      exact ⟨Nr.row_turn q1 hs (Nr.nx_refl _ _) n1, Nr.row_turn q2 hs (Nr.nx_refl _ _) n1⟩
theorem Nr.MW.sets {w : World} {r : Nat} {vS vA v2 v3 : Value} {fs gs : List (Nat → Bool)} {As : List (Value × Value)} {Ls : List (List Int × List Int)} {so sr : List Int} {u u' : World} (h : Nr.MW w r vS vA v2 v3 fs As Ls so sr u) {g m cap : Nat} 
    (hg : u.grownBy u' vS.ownBlock) (ho : Sr.Own (r + 1) (.slice (some ⟨g, 0, none⟩) m cap) (fs ++ gs) u') (hl : vS.ownBlock = some g ∨ g = u.heap.size) :
    Nr.MW w r (.slice (some ⟨g, 0, none⟩) m cap) vA v2 v3 (fs ++ gs) As Ls so sr (u'.setCell ⟨r, 0, none⟩ (.slice (some ⟨g, 0, none⟩) m cap)) := by
  have hs := Nr.sm_after h (i := 0) (.inr hg) (.slice (some ⟨g, 0, none⟩) m cap)
  have hrA : ¬ vS.ownBlock = some r := fun e => by have := (h.sb r e).1; omega
  have n1 : Nr.Nx vS (.slice (some ⟨g, 0, none⟩) m cap) u.heap.size := fun k hk => by
    simp only [Value.ownBlock] at hk
    injection hk with hk
    subst hk
    rcases hl with e | e
    · exact .inl e
    · exact .inr (by omega)
  have hgr : g ≠ r := fun e => by
    subst e
    rcases hl with e | e
    · exact hrA e
    · have := h.lt; omega
  have cc : ∀ {i : Nat} {x : Value}, u.cell? ⟨r, i, none⟩ = some x → u'.cell? ⟨r, i, none⟩ = some x := fun hx => hg.cell hx (fun e => hrA e.symm)
  have d0 := cc h.c0; have d1 := cc h.c1; have d2 := cc h.c2; have d3 := cc h.c3
  refine ⟨Nr.bel_after h.bel h.hr (fun k hk => (h.sb k hk).1) hg _, by simp [go_sem, d0], by simp [go_sem, d1], by simp [go_sem, d2], by simp [go_sem, d3], fun i hi => ?_, h.hr, ⟨?_, ho.2⟩, ?_, ?_, h.la, fun i h1 h2 => ⟨Nr.row_turn (h.ra i h1 h2).1 hs n1 (Nr.nx_refl _ _), Nr.row_turn (h.ra i h1 h2).2 hs n1 (Nr.nx_refl _ _)⟩, Nr.row_turn h.r2 hs n1 (Nr.nx_refl _ _), Nr.row_turn h.r3 hs n1 (Nr.nx_refl _ _)⟩
  · have e1 : u'.frozen? ⟨r, i, none⟩ = false := by rw [(Ng.Only.of_grown hg).frozen h.lt hrA]; exact h.z i hi
    simpa [go_sem] using e1
  · exact ownsRow_setCell_other ho.1 (by simp only [Value.ownBlock]; exact fun e => hgr (by injection e)) _
  · exact ownsRow_setCell_other ((Ng.Only.of_grown hg).row h.oa (fun k hk e => h.sa k e hk)) (fun e => by have := (h.ab r e).1; omega) _
  · intro k hk e
    simp only [Value.ownBlock] at hk
    injection hk with hk
    subst hk
    rcases hl with e1 | e1
    · exact h.sa _ e1 e
    · have := (h.ab _ e).2; omega
theorem Nr.sm_start (r : Nat) (vS vA : Value) (u : World) (x y : Value) : Nr.Sm r vS vA u ((u.setCell ⟨r, 2, none⟩ x).setCell ⟨r, 3, none⟩ y) := ⟨by simp [go_sem], fun k _ h1 _ _ => by rw [Below.heap_setCell _ _ _ _ h1, Below.heap_setCell _ _ _ _ h1]⟩
theorem Nr.MW.start {w : World} {r : Nat} {vS vA v2 v3 : Value} {fs : List (Nat → Bool)} {As : List (Value × Value)} {Ls : List (List Int × List Int)} {so sr : List Int} {u : World} (h : Nr.MW w r vS vA v2 v3 fs As Ls so sr u) {x y : Value} {so' sr' : List Int} (q1 : Nf.Row u (Nr.K r vS vA) x so') (q2 : Nf.Row u (Nr.K r vS vA) y sr') : Nr.MW w r vS vA x y fs As Ls so' sr' ((u.setCell ⟨r, 2, none⟩ x).setCell ⟨r, 3, none⟩ y) := by
  have hs := Nr.sm_start r vS vA u x y
  have d0 := h.c0; have d1 := h.c1; have d2 := h.c2; have d3 := h.c3
  have n := Nr.nx_refl
  refine ⟨(h.bel.setCell h.hr _).setCell h.hr _, by simp [go_sem, d0], by simp [go_sem, d1], by simp [go_sem, d2], by simp [go_sem, d3], fun i hi => by simpa [go_sem] using h.z i hi, h.hr, ⟨ownsRow_setCell_other (ownsRow_setCell_other h.os.1 (fun e => by have := (h.sb r e).1; omega) _) (fun e => by have := (h.sb r e).1; omega) _, h.os.2⟩, ownsRow_setCell_other (ownsRow_setCell_other h.oa (fun e => by have := (h.ab r e).1; omega) _) (fun e => by have := (h.ab r e).1; omega) _, h.sa, h.la, fun i h1 h2 => ⟨Nr.row_turn (h.ra i h1 h2).1 hs (n _ _) (n _ _), Nr.row_turn (h.ra i h1 h2).2 hs (n _ _) (n _ _)⟩, Nr.row_turn q1 hs (n _ _) (n _ _), Nr.row_turn q2 hs (n _ _) (n _ _)⟩
structure Nr.Mc (w : World) (r : Nat) (l : List Rx) (vS vA v2 v3 : Value) (As : List (Value × Value)) (Ls : List (List Int × List Int)) (so sr : List Int) : Prop where
  c0 : w.cell? ⟨r, 0, none⟩ = some vS
  c1 : w.cell? ⟨r, 1, none⟩ = some vA
  c2 : w.cell? ⟨r, 2, none⟩ = some v2
  c3 : w.cell? ⟨r, 3, none⟩ = some v3
  os : Sr.Own 0 vS (Rx.setsL l) w
  oa : w.ownsRow 0 36 2 vA As.length (Nr.cells As)
  la : As.length = Ls.length
  ra : ∀ i (h : i < As.length) (h' : i < Ls.length), Nf.Row w (fun _ => True) As[i].1 Ls[i].1 ∧ Nf.Row w (fun _ => True) As[i].2 Ls[i].2
  r2 : Nf.Row w (fun _ => True) v2 so
  r3 : Nf.Row w (fun _ => True) v3 sr
  sp : Nr.Sp l (Rx.setsL l) Ls so sr
theorem Nr.Mc.up {w w' : World} {r : Nat} {l : List Rx} {vS vA v2 v3 : Value} {As : List (Value × Value)} {Ls : List (List Int × List Int)} {so sr : List Int} (h : Nr.Mc w r l vS vA v2 v3 As Ls so sr) (hb : Below w.heap.size w w') : Nr.Mc w' r l vS vA v2 v3 As Ls so sr :=
  ⟨Bs.cell_up hb h.c0, Bs.cell_up hb h.c1, Bs.cell_up hb h.c2, Bs.cell_up hb h.c3, h.os.up hb, Bs.row_up h.oa hb, h.la, fun i h1 h2 => ⟨(h.ra i h1 h2).1.up hb, (h.ra i h1 h2).2.up hb⟩, h.r2.up hb, h.r3.up hb, h.sp⟩
end Go.Proofs.YthapedadnbkgnaaGreat
namespace Go.Proofs.YthapedadnbkgnaaGreat
set_option linter.unusedVariables false
set_option linter.unusedSimpArgs false
open Go.RowKit
theorem Nr.MW.keep0 {w : World} {r : Nat} {vS vA v2 v3 : Value} {fs : List (Nat → Bool)} {As : List (Value × Value)} {Ls : List (List Int × List Int)} {so sr : List Int} {u : World} (h : Nr.MW w r vS vA v2 v3 fs As Ls so sr u) : Nr.MW w r vS vA v2 v3 fs As Ls so sr (u.setCell ⟨r, 0, none⟩ vS) := by
  have hs : Nr.Sm r vS vA u (u.setCell ⟨r, 0, none⟩ vS) := ⟨by simp [go_sem], fun k _ h1 _ _ => Below.heap_setCell _ _ _ _ h1⟩
  have d0 := h.c0; have d1 := h.c1; have d2 := h.c2; have d3 := h.c3
  have n := Nr.nx_refl
  exact ⟨h.bel.setCell h.hr _, by simp [go_sem, d0], by simp [go_sem, d1], by simp [go_sem, d2], by simp [go_sem, d3], fun i hi => by simpa [go_sem] using h.z i hi, h.hr, ⟨ownsRow_setCell_other h.os.1 (fun e => by have := (h.sb r e).1; omega) _, h.os.2⟩, ownsRow_setCell_other h.oa (fun e => by have := (h.ab r e).1; omega) _, h.sa, h.la, fun i h1 h2 => ⟨Nr.row_turn (h.ra i h1 h2).1 hs (n _ _) (n _ _), Nr.row_turn (h.ra i h1 h2).2 hs (n _ _) (n _ _)⟩, Nr.row_turn h.r2 hs (n _ _) (n _ _), Nr.row_turn h.r3 hs (n _ _) (n _ _)⟩
theorem Nr.Sm.below {r : Nat} {vS vA : Value} {u x u' : World} (hb : Below u.heap.size u x) (h : Nr.Sm r vS vA x u') : Nr.Sm r vS vA u u' :=
  ⟨Nat.le_trans hb.size h.size, fun k hk h1 h2 h3 => (h.same k (Nat.lt_of_lt_of_le hk hb.size) h1 h2 h3).trans (hb.block k hk)⟩
def Nr.SP (U : World) (r : Nat) (vS : Value) (fs gs : List (Nat → Bool)) (v : Value) (u : World) : Prop :=
  (gs = [] ∧ v = vS ∧ Below U.heap.size U u) ∨ ∃ (x : World) (g cap : Nat), v = .slice (some ⟨g, 0, none⟩) (fs.length + gs.length) cap ∧ Below U.heap.size U x ∧ x.grownBy u vS.ownBlock ∧ Sr.Own (r + 1) v (fs ++ gs) u ∧ (vS.ownBlock = some g ∨ g = x.heap.size)
theorem Nr.SP.up {U : World} {r : Nat} {vS : Value} {fs gs : List (Nat → Bool)} {v : Value} {u u' : World} (h : Nr.SP U r vS fs gs v u) (hb : Below u.heap.size u u') : Nr.SP U r vS fs gs v u' := by
  rcases h with ⟨h1, h2, h3⟩ | ⟨x, g, cap, e, h1, h2, h3, h4⟩
  · exact .inl ⟨h1, h2, Bs.below_up h3 hb⟩
  · exact .inr ⟨x, g, cap, e, h1, Ng.grown_up h2 hb, h3.up hb, h4⟩
theorem Nr.SP.done {w U : World} {r : Nat} {vS vA v2 v3 : Value} {fs gs : List (Nat → Bool)} {As : List (Value × Value)} {Ls : List (List Int × List Int)} {so sr : List Int} {v : Value} {u : World} (h : Nr.SP U r vS fs gs v u) (hm : Nr.MW w r vS vA v2 v3 fs As Ls so sr U) : Nr.MW w r v vA v2 v3 (fs ++ gs) As Ls so sr (u.setCell ⟨r, 0, none⟩ v) ∧ Nr.Sm r vS vA U (u.setCell ⟨r, 0, none⟩ v) ∧ Nr.Nx vS v U.heap.size := by
  rcases h with ⟨h1, h2, h3⟩ | ⟨x, g, cap, e, h1, h2, h3, h4⟩
  · subst h1
    subst h2
    rw [List.append_nil]
    exact ⟨(hm.up h3).keep0, Nr.Sm.below h3 ⟨by simp [go_sem], fun k _ h1 _ _ => Below.heap_setCell _ _ _ _ h1⟩, Nr.nx_refl _ _⟩
  · subst e
    have hx := hm.up h1
    refine ⟨hx.sets h2 h3 h4, Nr.Sm.below h1 (Nr.sm_after hx (.inr h2) _), fun k hk => ?_⟩
    simp only [Value.ownBlock] at hk
    injection hk with hk
    subst hk
    rcases h4 with h4 | h4
    · exact .inl h4
    · exact .inr (by have := h1.size; omega)
structure Nr.WZ (U : World) (r : Nat) (vS : Value) (L : Nat → Bool) (u : World) : Prop where
  c0 : u.cell? ⟨r, 0, none⟩ = some vS
  z0 : u.frozen? ⟨r, 0, none⟩ = false
  is : L 10 = false → Below U.heap.size U u
  d9 : L 10 = true → L 9 = true
  d8 : L 9 = true → L 8 = true
theorem Nr.WZ.on {U : World} {r : Nat} {vS : Value} {L : Nat → Bool} {u : World} (h : Nr.WZ U r vS L u) (j : Nat) (h10 : j ≠ 10) (h9 : j = 9 → L 8 = true) : Nr.WZ U r vS (fun k => decide (k = j) || L k) u :=
  ⟨h.c0, h.z0, fun e => h.is (by simpa [Ne.symm h10] using e), fun e => by simp [h.d9 (by simpa [Ne.symm h10] using e)], fun e => by
    by_cases h8 : j = 9
    · simp [h9 h8]
    · simp [h.d8 (by simpa [Ne.symm h8] using e)]⟩
theorem Nr.WZ.up {U : World} {r : Nat} {vS : Value} {L : Nat → Bool} {u u' : World} (h : Nr.WZ U r vS L u) (hb : Below u.heap.size u u') : Nr.WZ U r vS L u' :=
  ⟨Bs.cell_up hb h.c0, by rw [hb.frozen (World.block_lt_of_cell? u _ h.c0)]; exact h.z0, fun e => Bs.below_up (h.is e) hb, h.d9, h.d8⟩
def Nr.FP (U : World) (r : Nat) (vA : Value) (As : List (Value × Value)) (f1 f2 : Value) (v : Value) (u : World) : Prop :=
  ∃ (x : World) (g cap : Nat), v = .slice (some ⟨g, 0, none⟩) (As.length + 1) cap ∧ Below U.heap.size U x ∧ x.grownBy u vA.ownBlock ∧ u.ownsRow (r + 1) 36 2 v (As.length + 1) (Nr.cells As ++ [f1, f2]) ∧ (vA.ownBlock = some g ∨ g = x.heap.size)
theorem Nr.FP.up {U : World} {r : Nat} {vA : Value} {As : List (Value × Value)} {f1 f2 : Value} {v : Value} {u u' : World} (h : Nr.FP U r vA As f1 f2 v u) (hb : Below u.heap.size u u') : Nr.FP U r vA As f1 f2 v u' := by
  obtain ⟨x, g, cap, e, h1, h2, h3, h4⟩ := h
  exact ⟨x, g, cap, e, h1, Ng.grown_up h2 hb, Bs.row_up h3 hb, h4⟩
theorem Nr.FP.done {w U : World} {r : Nat} {vS vA v2 v3 : Value} {fs : List (Nat → Bool)} {As : List (Value × Value)} {Ls : List (List Int × List Int)} {so sr : List Int} {f1 f2 : Value} {l1 l2 : List Int} {v : Value} {u : World} (h : Nr.FP U r vA As f1 f2 v u) (hm : Nr.MW w r vS vA v2 v3 fs As Ls so sr U) (q1 : Nf.Row U (Nr.K r vS vA) f1 l1) (q2 : Nf.Row U (Nr.K r vS vA) f2 l2) : Nr.MW w r vS v v2 v3 fs (As ++ [(f1, f2)]) (Ls ++ [(l1, l2)]) so sr (u.setCell ⟨r, 1, none⟩ v) ∧ Nr.Sm r vS vA U (u.setCell ⟨r, 1, none⟩ v) ∧ Nr.Nx vA v U.heap.size := by
  obtain ⟨x, g, cap, e, h1, h2, h3, h4⟩ := h
  subst e
  have hx := hm.up h1
  refine ⟨hx.after (q1.up h1) (q2.up h1) h2 h3 h4, Nr.Sm.below h1 (Nr.sm_after hx (.inl h2) _), fun k hk => ?_⟩
  simp only [Value.ownBlock] at hk
  injection hk with hk
  subst hk
  rcases h4 with h4 | h4
  · exact .inl h4
  · exact .inr (by have := h1.size; omega)
structure Nr.WF (U : World) (r : Nat) (vA : Value) (L : Nat → Bool) (u : World) : Prop where
  c1 : u.cell? ⟨r, 1, none⟩ = some vA
  z1 : u.frozen? ⟨r, 1, none⟩ = false
  is : L 7 = false → Below U.heap.size U u
  d6 : L 7 = true → L 6 = true
  d5 : L 6 = true → L 5 = true
theorem Nr.WF.on {U : World} {r : Nat} {vA : Value} {L : Nat → Bool} {u : World} (h : Nr.WF U r vA L u) (j : Nat) (h7 : j ≠ 7) (h6 : j = 6 → L 5 = true) : Nr.WF U r vA (fun k => decide (k = j) || L k) u :=
  ⟨h.c1, h.z1, fun e => h.is (by simpa [Ne.symm h7] using e), fun e => by simp [h.d6 (by simpa [Ne.symm h7] using e)], fun e => by
    by_cases h8 : j = 6
    · simp [h6 h8]
    · simp [h.d5 (by simpa [Ne.symm h8] using e)]⟩
theorem Nr.WF.up {U : World} {r : Nat} {vA : Value} {L : Nat → Bool} {u u' : World} (h : Nr.WF U r vA L u) (hb : Below u.heap.size u u') : Nr.WF U r vA L u' :=
  ⟨Bs.cell_up hb h.c1, by rw [hb.frozen (World.block_lt_of_cell? u _ h.c1)]; exact h.z1, fun e => Bs.below_up (h.is e) hb, h.d6, h.d5⟩
end Go.Proofs.YthapedadnbkgnaaGreat
namespace Go.Proofs.YthapedadnbkgnaaGreat
set_option linter.unusedVariables false
set_option linter.unusedSimpArgs false
open Go.RowKit
structure Nr.SS (w : World) (p1 p2 v1 v2 : Value) (lo lr : List Int) (u : World) : Prop where
  bel : Below w.heap.size w u
  fi : Nf.FB u w.heap.size p1 p2
  res : Nf.FB u (w.heap.size + 1) (.slice none 0 0) (.slice none 0 0)
  fb : Nf.FB u (w.heap.size + 2) v1 v2
  r1 : Nf.Row u (fun k => w.heap.size + 2 < k) v1 lo
  r2 : Nf.Row u (fun k => w.heap.size + 2 < k) v2 lr
theorem Nr.SS.up {w : World} {p1 p2 v1 v2 : Value} {lo lr : List Int} {u u' : World} (h : Nr.SS w p1 p2 v1 v2 lo lr u) (hb : Below u.heap.size u u') : Nr.SS w p1 p2 v1 v2 lo lr u' := ⟨Bs.below_up h.bel hb, h.fi.up hb, h.res.up hb, h.fb.up hb, h.r1.up hb, h.r2.up hb⟩
theorem Nr.SS.put {w : World} {p1 p2 v1 v2 : Value} {lo lr : List Int} {u : World} (h : Nr.SS w p1 p2 v1 v2 lo lr u) {x y : Value} {lo' lr' : List Int} (hx : Nf.Row u (fun k => w.heap.size + 2 < k) x lo') (hy : Nf.Row u (fun k => w.heap.size + 2 < k) y lr') : Nr.SS w p1 p2 x y lo' lr' ((u.setCell ⟨w.heap.size + 2, 0, none⟩ x).setCell ⟨w.heap.size + 2, 1, none⟩ y) :=
  ⟨(h.bel.setCell (p := ⟨w.heap.size + 2, 0, none⟩) (by simp) _).setCell (p := ⟨w.heap.size + 2, 1, none⟩) (by simp) _, (h.fi.far (by omega) _).far (by omega) _, (h.res.far (by omega) _).far (by omega) _, (h.fb.set0 x).set1 y, (hx.set (by simp) _).set (by simp) _, (hy.set (by simp) _).set (by simp) _⟩
theorem Nr.SS.out {w : World} {p1 p2 v1 v2 : Value} {lo lr : List Int} {u : World} (h : Nr.SS w p1 p2 v1 v2 lo lr u) {P R : Nat → Prop} (h1 : Nf.Rise lo P) (h2 : Nf.Rise lr R) : Ng.FP w (fun k => w.heap.size ≤ k) P R (.returned (.agg #[v1, v2])) ((u.setCell ⟨w.heap.size + 1, 0, none⟩ v1).setCell ⟨w.heap.size + 1, 1, none⟩ v2) :=
  ⟨lo, lr, ⟨v1, v2, rfl, ((h.r1.set (by simp) _).set (by simp) _).mono (fun k hk => by omega), ((h.r2.set (by simp) _).set (by simp) _).mono (fun k hk => by omega), (h.bel.setCell (p := ⟨w.heap.size + 1, 0, none⟩) (by simp) _).setCell (p := ⟨w.heap.size + 1, 1, none⟩) (by simp) _⟩, h1, h2⟩
end Go.Proofs.YthapedadnbkgnaaGreat
namespace Go.Proofs.YthapedadnbkgnaaGreat
set_option linter.unusedVariables false
set_option linter.unusedSimpArgs false
open Go.RowKit
def Nr.ne2 (H k : Nat) : Prop := k ≠ H ∧ k ≠ H + 1
structure Nr.RW (w : World) (v1 v2 : Value) (os rs : List Int) (u : World) : Prop where
  bel : Below w.heap.size w u
  res : Nf.FB u w.heap.size (.slice none 0 0) (.slice none 0 0)
  f : Nf.FB u (w.heap.size + 1) v1 v2
  r1 : Nf.Row u (Nr.ne2 w.heap.size) v1 os
  r2 : Nf.Row u (Nr.ne2 w.heap.size) v2 rs
theorem Nr.RW.up {w : World} {v1 v2 : Value} {os rs : List Int} {u u' : World} (h : Nr.RW w v1 v2 os rs u) (hb : Below u.heap.size u u') : Nr.RW w v1 v2 os rs u' := ⟨Bs.below_up h.bel hb, h.res.up hb, h.f.up hb, h.r1.up hb, h.r2.up hb⟩
theorem Nr.RW.put {w : World} {v1 v2 : Value} {os rs : List Int} {u : World} (h : Nr.RW w v1 v2 os rs u) {x y : Value} {os' rs' : List Int} (hx : Nf.Row u (Nr.ne2 w.heap.size) x os') (hy : Nf.Row u (Nr.ne2 w.heap.size) y rs') : Nr.RW w x y os' rs' ((u.setCell ⟨w.heap.size + 1, 0, none⟩ x).setCell ⟨w.heap.size + 1, 1, none⟩ y) :=
  ⟨(h.bel.setCell (p := ⟨w.heap.size + 1, 0, none⟩) (by simp) _).setCell (p := ⟨w.heap.size + 1, 1, none⟩) (by simp) _, (h.res.far (by omega) _).far (by omega) _, (h.f.set0 x).set1 y, (hx.set (fun e => e.2 rfl) _).set (fun e => e.2 rfl) _, (hy.set (fun e => e.2 rfl) _).set (fun e => e.2 rfl) _⟩
theorem Nr.RW.out {w : World} {v1 v2 : Value} {os rs : List Int} {u : World} (h : Nr.RW w v1 v2 os rs u) {P R : Nat → Prop} (h1 : Nf.Rise os P) (h2 : Nf.Rise rs R) : Ng.FP w (fun _ => True) P R (.returned (.agg #[v1, v2])) ((u.setCell ⟨w.heap.size, 0, none⟩ v1).setCell ⟨w.heap.size, 1, none⟩ v2) :=
  ⟨os, rs, ⟨v1, v2, rfl, ((h.r1.set (fun e => e.1 rfl) _).set (fun e => e.1 rfl) _).mono (fun _ _ => trivial), ((h.r2.set (fun e => e.1 rfl) _).set (fun e => e.1 rfl) _).mono (fun _ _ => trivial), (h.bel.setCell (p := ⟨w.heap.size, 0, none⟩) (by simp) _).setCell (p := ⟨w.heap.size, 1, none⟩) (by simp) _⟩, h1, h2⟩
end Go.Proofs.YthapedadnbkgnaaGreat
namespace Go.Proofs.YthapedadnbkgnaaGreat
set_option linter.unusedVariables false
set_option linter.unusedSimpArgs false
open Go.RowKit
end Go.Proofs.YthapedadnbkgnaaGreat
namespace Go.Proofs.YthapedadnbkgnaaGreat
set_option linter.unusedVariables false
set_option linter.unusedSimpArgs false
open Go.RowKit
def Nr.SP2 (v : Value) (u : World) (P R : Nat → Prop) : Prop := ∃ x y os rs, v = .agg #[x, y] ∧ Nf.Row u (fun _ => True) x os ∧ Nf.Row u (fun _ => True) y rs ∧ Nf.Rise os P ∧ Nf.Rise rs R
theorem Nr.SP2.up {v : Value} {u u' : World} {P R : Nat → Prop} (h : Nr.SP2 v u P R) (hb : Below u.heap.size u u') : Nr.SP2 v u' P R := by
  obtain ⟨x, y, os, rs, e, h1, h2, h3, h4⟩ := h
  exact ⟨x, y, os, rs, e, h1.up hb, h2.up hb, h3, h4⟩
end Go.Proofs.YthapedadnbkgnaaGreat
