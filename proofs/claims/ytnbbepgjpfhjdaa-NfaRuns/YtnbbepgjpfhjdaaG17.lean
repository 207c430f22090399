/- What the document's of keeps behind its inner loop: the part that comes next, with its own first and last Ones. -/
import Derived.Test.YtnbbepgjpfhjdaaG16
namespace Go.Proofs.Ytnbbepgjpfhjdaa
set_option linter.unusedVariables false
set_option linter.unusedSimpArgs false
open Go.RowKit
structure Nh.QW (w : World) (k : Nat) (f : Nat → Bool) (al : Option Addr) (n cap b bx bz bq : Nat) (n1 n2 : Int) (vF1 vL1 : Value) (e1 : Bool) (vN1 : Value) (vF vL : Value) (e2 : Bool) (vN2 : Value) (em : Bool) (vN : Value) (F1 L1 F2 L2 : List Int) (NQ : List (List Int)) (vFq vLq : Value) (Fq Lq : List Int) (u : World) : Prop where
  bel : Below w.heap.size w u
  nd : Rx.Nod u w.heap.size k f al n cap
  p2 : Nh.PB u (w.heap.size + 1) 0 (.slice none 0 0) (.slice none 0 0) false (.slice none 0 0)
  pp : Nh.PB u b n1 vF1 vL1 e1 vN1
  pa : Nh.PB u bx n1 vF1 vL1 e1 vN
  pb : Nh.PB u bz n2 vF vL e2 vN2
  pq : Nh.PB u bq n2 vFq vLq em vN
  rf1 : Nf.Row u (Nh.Kd b bx bz bq vN) vF1 F1
  rl1 : Nf.Row u (Nh.Kd b bx bz bq vN) vL1 L1
  rf : Nf.Row u (Nh.Kd b bx bz bq vN) vF F2
  rl : Nf.Row u (Nh.Kd b bx bz bq vN) vL L2
  rfq : Nf.Row u (Nh.Kd b bx bz bq vN) vFq Fq
  rlq : Nf.Row u (Nh.Kd b bx bz bq vN) vLq Lq
  nx : ∃ rows, Ng.Own (b + 1) vN rows u ∧ Nh.Rows u (Nh.Kd b bx bz bq vN) rows NQ
  fr : ∀ j, vN.ownBlock = some j → b < j ∧ j ≠ bx ∧ j ≠ bz ∧ j ≠ bq
  hb : w.heap.size + 1 < b
  hx : b < bx
  hz : b < bz
  hq : b < bq
  xz : bx ≠ bz
  qx : bq ≠ bx
  qz : bq ≠ bz
theorem Nh.LW.q {w : World} {k : Nat} {f : Nat → Bool} {al : Option Addr} {n cap b bx bz bq : Nat} {n1 n2 : Int} {vF1 vL1 : Value} {e1 : Bool} {vN1 vF vL : Value} {e2 : Bool} {vN2 : Value} {em : Bool} {vN : Value} {F1 L1 F2 L2 : List Int} {NQ : List (List Int)} {u : World} (h : Nh.LW w k f al n cap b bx bz bq n1 n2 vF1 vL1 e1 vN1 vF vL e2 vN2 em vN F1 L1 F2 L2 NQ u) : Nh.QW w k f al n cap b bx bz bq n1 n2 vF1 vL1 e1 vN1 vF vL e2 vN2 em vN F1 L1 F2 L2 NQ vF1 vL F1 L2 u :=
  ⟨h.bel, h.nd, h.p2, h.pp, h.pa, h.pb, h.pq, h.rf1, h.rl1, h.rf, h.rl, h.rf1, h.rl, h.nx, h.fr, h.hb, h.hx, h.hz, h.hq, h.xz, h.qx, h.qz⟩
theorem Nh.QW.up {w : World} {k : Nat} {f : Nat → Bool} {al : Option Addr} {n cap b bx bz bq : Nat} {n1 n2 : Int} {vF1 vL1 : Value} {e1 : Bool} {vN1 vF vL : Value} {e2 : Bool} {vN2 : Value} {em : Bool} {vN : Value} {F1 L1 F2 L2 : List Int} {NQ : List (List Int)} {vFq vLq : Value} {Fq Lq : List Int} {u u' : World} (h : Nh.QW w k f al n cap b bx bz bq n1 n2 vF1 vL1 e1 vN1 vF vL e2 vN2 em vN F1 L1 F2 L2 NQ vFq vLq Fq Lq u) (hb : Below u.heap.size u u') : Nh.QW w k f al n cap b bx bz bq n1 n2 vF1 vL1 e1 vN1 vF vL e2 vN2 em vN F1 L1 F2 L2 NQ vFq vLq Fq Lq u' := by
  obtain ⟨rows, h1, h2⟩ := h.nx
  exact ⟨Bs.below_up h.bel hb, h.nd.up hb, h.p2.up hb, h.pp.up hb, h.pa.up hb, h.pb.up hb, h.pq.up hb, h.rf1.up hb, h.rl1.up hb, h.rf.up hb, h.rl.up hb, h.rfq.up hb, h.rlq.up hb, ⟨rows, h1.up hb, h2.up hb⟩, h.fr, h.hb, h.hx, h.hz, h.hq, h.xz, h.qx, h.qz⟩
theorem Nh.QW.wr {w : World} {k : Nat} {f : Nat → Bool} {al : Option Addr} {n cap b bx bz bq : Nat} {n1 n2 : Int} {vF1 vL1 : Value} {e1 : Bool} {vN1 vF vL : Value} {e2 : Bool} {vN2 : Value} {em : Bool} {vN : Value} {F1 L1 F2 L2 : List Int} {NQ : List (List Int)} {vFq vLq : Value} {Fq Lq : List Int} {u : World} (h : Nh.QW w k f al n cap b bx bz bq n1 n2 vF1 vL1 e1 vN1 vF vL e2 vN2 em vN F1 L1 F2 L2 NQ vFq vLq Fq Lq u) (i : Nat) (x : Value) {vFq' vLq' : Value} {Fq' Lq' : List Int} (hp : Nh.PB (u.setCell ⟨bq, i, none⟩ x) bq n2 vFq' vLq' em vN) (h1 : Nf.Row u (Nh.Kd b bx bz bq vN) vFq' Fq') (h2 : Nf.Row u (Nh.Kd b bx bz bq vN) vLq' Lq') : Nh.QW w k f al n cap b bx bz bq n1 n2 vF1 vL1 e1 vN1 vF vL e2 vN2 em vN F1 L1 F2 L2 NQ vFq' vLq' Fq' Lq' (u.setCell ⟨bq, i, none⟩ x) := by
  have hs : ∀ j, j ≠ bq → (u.setCell ⟨bq, i, none⟩ x).heap[j]? = u.heap[j]? := fun j hj => Below.heap_setCell _ _ _ _ hj
  have hr : ∀ {v : Value} {l : List Int}, Nf.Row u (Nh.Kd b bx bz bq vN) v l → Nf.Row (u.setCell ⟨bq, i, none⟩ x) (Nh.Kd b bx bz bq vN) v l := fun h => Nh.row_same h (fun j hj => hs j hj.2.2.2.2)
  obtain ⟨rows, o1, o2⟩ := h.nx
  have e0 := hs w.heap.size (by have := h.hb; have := h.hq; omega)
  refine ⟨h.bel.setCell (by have := h.hb; have := h.hq; simp; omega) _, ⟨Ng.nod_same h.nd e0, fun j hj => (World.frozen?_of_block (a := ⟨w.heap.size, j, none⟩) e0).trans (h.nd.frz j hj)⟩, h.p2.only (hs _ (by have := h.hb; have := h.hq; omega)), h.pp.only (hs _ (by have := h.hq; omega)), h.pa.only (hs _ h.qx.symm), h.pb.only (hs _ h.qz.symm), hp, hr h.rf1, hr h.rl1, hr h.rf, hr h.rl, hr h1, hr h2, ⟨rows, Nh.own_same o1 (fun j hj => hs j (h.fr j hj).2.2.2), o2.same (fun j hj => hs j hj.2.2.2.2)⟩, h.fr, h.hb, h.hx, h.hz, h.hq, h.xz, h.qx, h.qz⟩
theorem Nh.QW.set1 {w : World} {k : Nat} {f : Nat → Bool} {al : Option Addr} {n cap b bx bz bq : Nat} {n1 n2 : Int} {vF1 vL1 : Value} {e1 : Bool} {vN1 vF vL : Value} {e2 : Bool} {vN2 : Value} {em : Bool} {vN : Value} {F1 L1 F2 L2 : List Int} {NQ : List (List Int)} {vFq vLq : Value} {Fq Lq : List Int} {u : World} (h : Nh.QW w k f al n cap b bx bz bq n1 n2 vF1 vL1 e1 vN1 vF vL e2 vN2 em vN F1 L1 F2 L2 NQ vFq vLq Fq Lq u) {v : Value} {l : List Int} (hv : Nf.Row u (Nh.Kd b bx bz bq vN) v l) : Nh.QW w k f al n cap b bx bz bq n1 n2 vF1 vL1 e1 vN1 vF vL e2 vN2 em vN F1 L1 F2 L2 NQ v vLq l Lq (u.setCell ⟨bq, 1, none⟩ v) := h.wr 1 v (h.pq.set1 v) hv h.rlq
theorem Nh.QW.set2 {w : World} {k : Nat} {f : Nat → Bool} {al : Option Addr} {n cap b bx bz bq : Nat} {n1 n2 : Int} {vF1 vL1 : Value} {e1 : Bool} {vN1 vF vL : Value} {e2 : Bool} {vN2 : Value} {em : Bool} {vN : Value} {F1 L1 F2 L2 : List Int} {NQ : List (List Int)} {vFq vLq : Value} {Fq Lq : List Int} {u : World} (h : Nh.QW w k f al n cap b bx bz bq n1 n2 vF1 vL1 e1 vN1 vF vL e2 vN2 em vN F1 L1 F2 L2 NQ vFq vLq Fq Lq u) {v : Value} {l : List Int} (hv : Nf.Row u (Nh.Kd b bx bz bq vN) v l) : Nh.QW w k f al n cap b bx bz bq n1 n2 vF1 vL1 e1 vN1 vF vL e2 vN2 em vN F1 L1 F2 L2 NQ vFq v Fq l (u.setCell ⟨bq, 2, none⟩ v) := h.wr 2 v (h.pq.set2 v) h.rfq hv
theorem Nh.QW.done {w : World} {k : Nat} {f : Nat → Bool} {al : Option Addr} {n cap b bx bz bq : Nat} {n1 : Int} {n2 : Nat} {vF1 vL1 : Value} {e1 : Bool} {vN1 vF vL : Value} {e2 : Bool} {vN2 : Value} {em : Bool} {vN : Value} {F1 L1 F2 L2 : List Int} {NQ : List (List Int)} {vFq vLq : Value} {Fq Lq : List Int} {u : World} (h : Nh.QW w k f al n cap b bx bz bq n1 n2 vF1 vL1 e1 vN1 vF vL e2 vN2 em vN F1 L1 F2 L2 NQ vFq vLq Fq Lq u) : ∃ rows, Nh.CW w k f al n cap b n2 vFq vLq em vN Fq Lq NQ rows (Nh.put u b n2 vFq vLq em vN) := by
  have hs : ∀ j, j ≠ b → (Nh.put u b n2 vFq vLq em vN).heap[j]? = u.heap[j]? := fun j hj => Nh.put_far _ _ _ _ _ _ _ _ hj
  have hr : ∀ {v : Value} {l : List Int}, Nf.Row u (Nh.Kd b bx bz bq vN) v l → Nf.Row (Nh.put u b n2 vFq vLq em vN) (fun k => b < k ∧ some k ≠ vN.ownBlock) v l := fun h => (Nh.row_same h (fun j hj => hs j (by have := hj.1; omega))).mono (fun j hj => ⟨hj.1, hj.2.1⟩)
  obtain ⟨rows, o1, o2⟩ := h.nx
  have e0 := hs w.heap.size (by have := h.hb; omega)
  exact ⟨rows, Nh.put_below h.bel (by have := h.hb; omega) _ _ _ _ _, ⟨Ng.nod_same h.nd e0, fun j hj => (World.frozen?_of_block (a := ⟨w.heap.size, j, none⟩) e0).trans (h.nd.frz j hj)⟩, h.p2.only (hs _ (by have := h.hb; omega)), Nh.put_pb h.pp _ _ _ _ _, hr h.rfq, hr h.rlq, Nh.own_same o1 (fun j hj => hs j (by have := (h.fr j hj).1; omega)), (o2.same (fun j hj => hs j (by have := hj.1; omega))).mono (fun j hj => ⟨hj.1, hj.2.1⟩), h.hb⟩
theorem Nh.QW.kd {w : World} {k : Nat} {f : Nat → Bool} {al : Option Addr} {n cap b bx bz bq : Nat} {n1 n2 : Int} {vF1 vL1 : Value} {e1 : Bool} {vN1 vF vL : Value} {e2 : Bool} {vN2 : Value} {em : Bool} {vN : Value} {F1 L1 F2 L2 : List Int} {NQ : List (List Int)} {vFq vLq : Value} {Fq Lq : List Int} {u : World} (h : Nh.QW w k f al n cap b bx bz bq n1 n2 vF1 vL1 e1 vN1 vF vL e2 vN2 em vN F1 L1 F2 L2 NQ vFq vLq Fq Lq u) : ∀ j, u.heap.size ≤ j → Nh.Kd b bx bz bq vN j := by
  intro j hj
  obtain ⟨rows, o1, _⟩ := h.nx
  have h1 := h.pa.lt; have h2 := h.pb.lt; have h3 := h.pq.lt; have h4 := h.hq
  exact ⟨by omega, fun e => by have := (World.ownsRow.lt o1 j e.symm).2; omega, by omega, by omega, by omega⟩
theorem Nh.node_cat {n : Nat} {F L : List Int} {e : Bool} {N : List (List Int)} {l : List Rx} {k : Nat} (hk : k = 2) (f : Nat → Bool) (h : Nf.PartIs n F L e N (Nf.onesL l) (Rx.empC l) (Nf.fstC l) (Nf.lstC l) (Nf.folC l)) : Nf.PartIs n F L e N (Nf.ones (.node k f l)) (Rx.emp (.node k f l)) (Nf.fst (.node k f l)) (Nf.lst (.node k f l)) (Nf.fol (.node k f l)) := by
  subst hk
  refine ⟨by rw [Nf.ones_kids f l (by decide)]; exact h.num, by rw [h.emp]; simp [Rx.emp], h.fst.congr fun p => by simp only [Nf.fst], h.lst.congr fun p => by simp only [Nf.lst], by rw [Nf.ones_kids f l (by decide)]; exact h.len, fun i hi => (h.nxt i hi).congr fun p => by simp only [Nf.fol]⟩
theorem Nh.node_alt {n : Nat} {F L : List Int} {e : Bool} {N : List (List Int)} {l : List Rx} {k : Nat} (hk : k = 3) (f : Nat → Bool) (h : Nf.PartIs n F L e N (Nf.onesL l) (Rx.empA l) (Nf.fstA l) (Nf.lstA l) (Nf.folA l)) : Nf.PartIs n F L e N (Nf.ones (.node k f l)) (Rx.emp (.node k f l)) (Nf.fst (.node k f l)) (Nf.lst (.node k f l)) (Nf.fol (.node k f l)) := by
  subst hk
  refine ⟨by rw [Nf.ones_kids f l (by decide)]; exact h.num, by rw [h.emp]; simp [Rx.emp], h.fst.congr fun p => by simp only [Nf.fst], h.lst.congr fun p => by simp only [Nf.lst], by rw [Nf.ones_kids f l (by decide)]; exact h.len, fun i hi => (h.nxt i hi).congr fun p => by simp only [Nf.fol]⟩
theorem Nh.CW.out {w : World} {k : Nat} {f : Nat → Bool} {al : Option Addr} {n cap b n1 : Nat} {vF1 vL1 : Value} {e1 : Bool} {vN1 : Value} {F1 L1 : List Int} {N1 : List (List Int)} {rows1 : List Value} {u : World} {x : Rx} (h : Nh.CW w k f al n cap b n1 vF1 vL1 e1 vN1 F1 L1 N1 rows1 u) (hp : Nf.PartIs n1 F1 L1 e1 N1 (Nf.ones x) x.emp (Nf.fst x) (Nf.lst x) (Nf.fol x)) : Nh.OPost w x (.returned (.agg #[.int .i64 n1, vF1, vL1, .bool e1, vN1])) (Nh.put u (w.heap.size + 1) n1 vF1 vL1 e1 vN1) := by
  have hs : ∀ j, j ≠ w.heap.size + 1 → (Nh.put u (w.heap.size + 1) n1 vF1 vL1 e1 vN1).heap[j]? = u.heap[j]? := fun j hj => Nh.put_far _ _ _ _ _ _ _ _ hj
  have hb := h.hb
  refine ⟨n1, vF1, vL1, e1, vN1, F1, L1, N1, rfl, ⟨?_, ?_, rows1, ?_, ?_⟩, hp, Nh.put_below h.bel (by omega) _ _ _ _ _⟩
  · exact (Nh.row_same h.rf (fun j hj => hs j (by have := hj.1; omega))).mono (fun j hj => ⟨by have := hj.1; omega, hj.2⟩)
  · exact (Nh.row_same h.rl (fun j hj => hs j (by have := hj.1; omega))).mono (fun j hj => ⟨by have := hj.1; omega, hj.2⟩)
  · exact World.ownsRow.mono (Nh.own_same h.ow (fun j hj => hs j (by have := (World.ownsRow.lt h.ow j hj).1; omega))) (by omega)
  · exact (h.rw'.same (fun j hj => hs j (by have := hj.1; omega))).mono (fun j hj => ⟨by have := hj.1; omega, hj.2⟩)
end Go.Proofs.Ytnbbepgjpfhjdaa
