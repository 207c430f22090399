/- The walk over all fronts, in memory. -/
import Derived.Test.YthapedadnbkgnaaG17
import Derived.Test.YthapedadnbkgnaaG23
import Derived.Test.YthapedadnbkgnaaG13
namespace Go.Proofs.Ythapedadnbkgnaa
set_option linter.unusedVariables false
set_option linter.unusedSimpArgs false
open Go.RowKit
theorem Df.infoFr : (Try.prog.info? 119).map (fun i => (i.zero, i.size, i.bytes)) = some (some (.agg #[.slice none 0 0, .slice none 0 0, .slice none 0 0]), 3, 72) := by kernel_rfl
def Df.cells (l : List (Value × Value × Value)) : List Value := l.flatMap fun p => [p.1, p.2.1, p.2.2]
theorem Df.cells_append (a b : List (Value × Value × Value)) : Df.cells (a ++ b) = Df.cells a ++ Df.cells b := by simp [Df.cells]
theorem Df.cells_at : ∀ (l : List (Value × Value × Value)) (k : Nat) (h : k < l.length), (Df.cells l)[k * 3]? = some l[k].1 ∧ (Df.cells l)[k * 3 + 1]? = some l[k].2.1 ∧ (Df.cells l)[k * 3 + 2]? = some l[k].2.2
  | p :: r, 0, h => ⟨rfl, rfl, rfl⟩
  | p :: r, k + 1, h => by
    have := Df.cells_at r k (by simpa using h)
    have e : (k + 1) * 3 = k * 3 + 1 + 1 + 1 := by omega
    simp only [Df.cells, List.flatMap_cons, List.cons_append, List.nil_append, e, List.getElem?_cons_succ, List.getElem_cons_succ] at this ⊢
    exact this
theorem Df.cells_set : ∀ (l : List (Value × Value × Value)) (k : Nat) (h : k < l.length) (x : Value), (Df.cells l).set (k * 3 + 2) x = Df.cells (l.set k (l[k].1, l[k].2.1, x))
  | p :: r, 0, h, x => rfl
  | p :: r, k + 1, h, x => by
    have := Df.cells_set r k (by simpa using h) x
    have e : (k + 1) * 3 + 2 = k * 3 + 2 + 1 + 1 + 1 := by omega
    simp only [Df.cells, List.flatMap_cons, List.cons_append, List.nil_append, e, List.set_cons_succ, List.getElem_cons_succ] at this ⊢
    rw [this]
def Df.K (r b gx : Nat) (vF : Value) (k : Nat) : Prop := k ≠ r ∧ k ≠ b ∧ some k ≠ vF.ownBlock ∧ k ≠ gx
def Df.Nx (v v' : Value) (n : Nat) : Prop := ∀ k, v'.ownBlock = some k → v.ownBlock = some k ∨ n ≤ k
theorem Df.nx_refl (v : Value) (n : Nat) : Df.Nx v v n := fun _ h => .inl h
theorem Df.Nx.trans {v v' v'' : Value} {n m : Nat} (h : Df.Nx v v' n) (h' : Df.Nx v' v'' m) (hnm : n ≤ m) : Df.Nx v v'' n := fun k hk => by
  rcases h' k hk with e | e
  · exact h k e
  · exact .inr (by omega)
def Df.Wr (r b : Nat) (vF : Value) (k : Nat) : Prop := k = r ∨ k = b ∨ some k = vF.ownBlock
theorem Df.k_of {r b gx : Nat} {vF : Value} {k : Nat} (h : Df.K r b gx vF k) : ¬ Df.Wr r b vF k := by
  rintro (e | e | e)
  · exact h.1 e
  · exact h.2.1 e
  · exact h.2.2.1 e
theorem Df.row_turn {r b gx : Nat} {vF vF' : Value} {u u' : World} {v : Value} {l : List Int} (h : Nf.Row u (Df.K r b gx vF) v l) (ho : Ng.Only u u' (Df.Wr r b vF)) (hx : Df.Nx vF vF' u.heap.size) : Nf.Row u' (Df.K r b gx vF') v l := by
  have h' := h.lt
  obtain ⟨a, cap, e, h1, h2, h3, h4⟩ := h'
  refine ⟨a, cap, e, h1, h2, fun i hi => ?_, fun x ex hl => ?_⟩
  · obtain ⟨x, ex, hc⟩ := h3 i hi
    have hx2 : (x.add i).block = x.block := by simp only [Addr.add]; split <;> rfl
    have h5 := h4 x ex (fun e0 => by rw [e0] at hi; simp at hi)
    exact ⟨x, ex, ho.cell hc (by rw [hx2]; exact Df.k_of h5.1)⟩
  · have h5 := h4 x ex hl
    refine ⟨h5.1.1, h5.1.2.1, fun e1 => ?_, h5.1.2.2.2⟩
    rcases hx _ e1.symm with e2 | e2
    · exact h5.1.2.2.1 e2.symm
    · have := h5.2; omega
structure Df.Rw (u : World) (B : Nat → Prop) (F : List Df.Fr) (vs : List (Value × Value × Value)) (nx : List (List Nat)) : Prop where
  len : vs.length = F.length
  le : nx.length ≤ F.length
  ra : ∀ i (h : i < vs.length) (h' : i < F.length), Nf.Row u B vs[i].1 F[i].1 ∧ Nf.Row u B vs[i].2.1 F[i].2
  rn : ∀ i (h : i < vs.length), (∀ h' : i < nx.length, Nf.Row u B vs[i].2.2 (Ng.nums nx[i])) ∧ (nx.length ≤ i → vs[i].2.2 = .slice none 0 0)
theorem Df.Rw.map {u u' : World} {B B' : Nat → Prop} {F : List Df.Fr} {vs : List (Value × Value × Value)} {nx : List (List Nat)} (h : Df.Rw u B F vs nx) (hm : ∀ v l, Nf.Row u B v l → Nf.Row u' B' v l) : Df.Rw u' B' F vs nx :=
  ⟨h.len, h.le, fun i h1 h2 => ⟨hm _ _ (h.ra i h1 h2).1, hm _ _ (h.ra i h1 h2).2⟩, fun i h1 => ⟨fun h2 => hm _ _ ((h.rn i h1).1 h2), (h.rn i h1).2⟩⟩
theorem Df.Rw.snoc {u : World} {B : Nat → Prop} {F : List Df.Fr} {vs : List (Value × Value × Value)} {nx : List (List Nat)} (h : Df.Rw u B F vs nx) {v1 v2 : Value} {f : Df.Fr} (h1 : Nf.Row u B v1 f.1) (h2 : Nf.Row u B v2 f.2) : Df.Rw u B (F ++ [f]) (vs ++ [(v1, v2, .slice none 0 0)]) nx := by
  refine ⟨by simp [h.len], by rw [List.length_append]; have := h.le; omega, fun i a1 a2 => ?_, fun i a1 => ⟨fun a2 => ?_, fun a2 => ?_⟩⟩
  · by_cases e : i < vs.length
    · have e' : i < F.length := by rw [← h.len]; exact e
      simp only [List.getElem_append_left e, List.getElem_append_left e']
      exact h.ra i e e'
    · have e1 : i = vs.length := by simp at a1; omega
      have g1 : (vs ++ [(v1, v2, Value.slice none 0 0)])[i] = (v1, v2, Value.slice none 0 0) := by subst e1; simp
      have g2 : (F ++ [f])[i] = f := by rw [List.getElem_append_right (by rw [← h.len]; omega)]; simp
      rw [g1, g2]
      exact ⟨h1, h2⟩
  · have e : i < vs.length := by rw [h.len]; have := h.le; omega
    simp only [List.getElem_append_left e]
    exact (h.rn i e).1 a2
  · by_cases e : i < vs.length
    · simp only [List.getElem_append_left e]
      exact (h.rn i e).2 a2
    · have e1 : i = vs.length := by simp at a1; omega
      subst e1
      simp only [List.getElem_append_right (Nat.le_refl vs.length), Nat.sub_self, List.getElem_cons_zero]
theorem Df.Rw.next {u : World} {B : Nat → Prop} {F : List Df.Fr} {vs : List (Value × Value × Value)} {nx : List (List Nat)} (h : Df.Rw u B F vs nx) (hl : nx.length < vs.length) {v : Value} {row : List Nat} (hv : Nf.Row u B v (Ng.nums row)) : Df.Rw u B F (vs.set nx.length (vs[nx.length].1, vs[nx.length].2.1, v)) (nx ++ [row]) := by
  refine ⟨by simp [h.len], by rw [List.length_append, List.length_singleton]; have := h.len; omega, fun i a1 a2 => ?_, fun i a1 => ?_⟩
  · rw [List.length_set] at a1
    rw [List.getElem_set]
    split
    · rename_i e
      subst e
      exact h.ra _ a1 a2
    · exact h.ra i a1 a2
  · rw [List.length_set] at a1
    rw [List.getElem_set]
    by_cases e : nx.length = i
    · subst e
      rw [if_pos rfl]
      refine ⟨fun a2 => ?_, fun a2 => by rw [List.length_append, List.length_singleton] at a2; omega⟩
      simp only [List.getElem_append_right (Nat.le_refl nx.length), Nat.sub_self, List.getElem_cons_zero]
      exact hv
    · rw [if_neg e]
      refine ⟨fun a2 => ?_, fun a2 => ?_⟩
      · have e2 : i < nx.length := by rw [List.length_append, List.length_singleton] at a2; omega
        simp only [List.getElem_append_left e2]
        exact (h.rn i a1).1 e2
      · rw [List.length_append, List.length_singleton] at a2
        exact (h.rn i a1).2 (by omega)
def Df.BR (u : World) (B : Nat → Prop) (v : Value) (l : List Nat) : Prop := ∃ a c, v = .slice a l.length c ∧ ∀ k (h : k < l.length), ∃ p, a = some p ∧ u.cell? (p.add k) = some (.int .u8 (l[k] : Nat)) ∧ B p.block ∧ p.block < u.heap.size
theorem Df.add_block (p : Addr) (k : Nat) : (p.add k).block = p.block := by simp only [Addr.add]; split <;> rfl
theorem Df.BR.map {u u' : World} {B B' : Nat → Prop} {v : Value} {l : List Nat} (h : Df.BR u B v l) (hs : u.heap.size ≤ u'.heap.size) (hc : ∀ (a : Addr) (x : Value), u.cell? a = some x → B a.block → a.block < u.heap.size → u'.cell? a = some x) (hB : ∀ k, B k → k < u.heap.size → B' k) : Df.BR u' B' v l := by
  obtain ⟨a, c, e, h1⟩ := h
  refine ⟨a, c, e, fun k hk => ?_⟩
  obtain ⟨p, ep, h2, h3, h4⟩ := h1 k hk
  exact ⟨p, ep, hc _ _ h2 (by rw [Df.add_block]; exact h3) (by rw [Df.add_block]; exact h4), hB _ h3 h4, Nat.lt_of_lt_of_le h4 hs⟩
theorem Df.BR.get {u : World} {B : Nat → Prop} {v : Value} {l : List Nat} (h : Df.BR u B v l) {a : Option Addr} {n c : Nat} (hv : v = .slice a n c) : n = l.length ∧ ∀ k (h : k < l.length), ∃ p, a = some p ∧ u.cell? (p.add k) = some (.int .u8 (l[k] : Nat)) := by
  obtain ⟨a', c', e, h1⟩ := h
  rw [hv] at e
  injection e with e1 e2 e3
  subst e1
  refine ⟨e2, fun k hk => ?_⟩
  obtain ⟨p, ep, h2, _⟩ := h1 k hk
  exact ⟨p, ep, h2⟩
theorem Df.BR.form {u : World} {B : Nat → Prop} {v : Value} {l : List Nat} (h : Df.BR u B v l) : ∃ a n c, v = .slice a n c := by
  obtain ⟨a, c, e, _⟩ := h
  exact ⟨_, _, _, e⟩
structure Df.WK (w0 : World) (r b gx rm : Nat) (vb : Value) (l : List Rx) (st : Nat) (ks : List (List Nat)) (vF : Value) (F : List Df.Fr) (vs : List (Value × Value × Value)) (nx : List (List Nat)) (u : World) : Prop where
  bel : Below w0.heap.size w0 u
  c0 : u.cell? ⟨r, 0, none⟩ = some (.pointer (some ⟨rm, 0, none⟩))
  c1 : u.cell? ⟨r, 1, none⟩ = some (.map (some b))
  c2 : u.cell? ⟨r, 2, none⟩ = some vb
  c3 : u.cell? ⟨r, 3, none⟩ = some vF
  c4 : u.cell? ⟨r, 4, none⟩ = some (.int .i64 st)
  z : ∀ i, i < 5 → u.frozen? ⟨r, i, none⟩ = false
  hr : w0.heap.size ≤ r
  hb : w0.heap.size ≤ b
  rb : r ≠ b
  gl : gx < u.heap.size
  nm : Df.Nm u b ks
  of : u.ownsRow w0.heap.size 119 3 vF vs.length (Df.cells vs)
  fb : ∀ k, vF.ownBlock = some k → k ≠ r ∧ k ≠ b
  ok : ∀ f ∈ F, Df.FOk l f
  rw' : Df.Rw u (Df.K r b gx vF) F vs nx
  yb : Df.BR u (Df.K r b gx vF) vb (Df.by_ l)
section
variable {w0 : World} {r b gx rm : Nat} {vb : Value} {l : List Rx} {st : Nat} {ks : List (List Nat)} {vF : Value} {F : List Df.Fr} {vs : List (Value × Value × Value)} {nx : List (List Nat)} {u : World}
theorem Df.Nm.lt (h : Df.Nm u b ks) : b < u.heap.size := by
  obtain ⟨D, h, _⟩ := h
  exact h.lt
theorem Df.Nm.same {u' : World} (h : Df.Nm u b ks) (hs : u'.heap[b]? = u.heap[b]?) : Df.Nm u' b ks := by
  obtain ⟨D, ⟨es, clock, hb, h1⟩, hI⟩ := h
  exact ⟨D, ⟨es, clock, hs.trans hb, h1⟩, hI⟩
theorem Df.WK.lt (h : Df.WK w0 r b gx rm vb l st ks vF F vs nx u) : r < u.heap.size := World.block_lt_of_cell? u _ h.c0
theorem Df.WK.flt (h : Df.WK w0 r b gx rm vb l st ks vF F vs nx u) : ∀ k, vF.ownBlock = some k → w0.heap.size ≤ k ∧ k < u.heap.size := fun k hk => World.ownsRow.lt h.of k hk
theorem Df.WK.k (h : Df.WK w0 r b gx rm vb l st ks vF F vs nx u) : ∀ k, u.heap.size ≤ k → Df.K r b gx vF k := fun k hk => by
  have h1 := h.lt
  have h2 := h.nm.lt
  have h3 := h.gl
  exact ⟨by omega, by omega, fun e => (by have := (h.flt k e.symm).2; omega), by omega⟩
theorem Df.WK.up {u' : World} (h : Df.WK w0 r b gx rm vb l st ks vF F vs nx u) (hb : Below u.heap.size u u') : Df.WK w0 r b gx rm vb l st ks vF F vs nx u' :=
  ⟨Bs.below_up h.bel hb, Bs.cell_up hb h.c0, Bs.cell_up hb h.c1, Bs.cell_up hb h.c2, Bs.cell_up hb h.c3, Bs.cell_up hb h.c4, fun i hi => by rw [hb.frozen h.lt]; exact h.z i hi, h.hr, h.hb, h.rb, Nat.lt_of_lt_of_le h.gl hb.size, h.nm.same (hb.block _ h.nm.lt), Bs.row_up h.of hb, h.fb, h.ok, h.rw'.map fun v l hv => hv.up hb, h.yb.map hb.size (fun a x hx _ _ => Bs.cell_up hb hx) (fun k hk _ => hk)⟩
theorem Df.WK.turn {u' : World} {st' : Nat} {ks' : List (List Nat)} {vF' : Value} {F' : List Df.Fr} {vs' : List (Value × Value × Value)} {nx' : List (List Nat)} (h : Df.WK w0 r b gx rm vb l st ks vF F vs nx u) (ho : Ng.Only u u' (Df.Wr r b vF)) (hx : Df.Nx vF vF' u.heap.size)
    (c0 : u'.cell? ⟨r, 0, none⟩ = some (.pointer (some ⟨rm, 0, none⟩))) (c1 : u'.cell? ⟨r, 1, none⟩ = some (.map (some b))) (c2 : u'.cell? ⟨r, 2, none⟩ = some vb) (c3 : u'.cell? ⟨r, 3, none⟩ = some vF') (c4 : u'.cell? ⟨r, 4, none⟩ = some (.int .i64 st')) (z : ∀ i, i < 5 → u'.frozen? ⟨r, i, none⟩ = false)
    (nm : Df.Nm u' b ks') (of : u'.ownsRow w0.heap.size 119 3 vF' vs'.length (Df.cells vs')) (ok : ∀ f ∈ F', Df.FOk l f) (rw' : Df.Rw u (Df.K r b gx vF) F' vs' nx') : Df.WK w0 r b gx rm vb l st' ks' vF' F' vs' nx' u' := by
  have hbel : Below w0.heap.size u u' := ho.below (fun k hk => by
    rcases hk with rfl | rfl | e
    · exact h.hr
    · exact h.hb
    · exact (h.flt k e.symm).1) h.bel.size
  refine ⟨h.bel.trans hbel, c0, c1, c2, c3, c4, z, h.hr, h.hb, h.rb, Nat.lt_of_lt_of_le h.gl ho.size, nm, of, fun k hk => ?_, ok, rw'.map fun v l hv => Df.row_turn hv ho hx, h.yb.map ho.size (fun a x hc hB _ => ho.cell hc (Df.k_of hB)) (fun k hk hl => ⟨hk.1, hk.2.1, fun e1 => (by
    rcases hx _ e1.symm with e2 | e2
    · exact hk.2.2.1 e2.symm
    · omega), hk.2.2.2⟩)⟩
  rcases hx k hk with e | e
  · exact h.fb k e
  · have h1 := h.lt
    have h2 := h.nm.lt
    exact ⟨by omega, by omega⟩
theorem Df.WK.num {u' : World} {ks' : List (List Nat)} (h : Df.WK w0 r b gx rm vb l st ks vF F vs nx u) (hm : Df.Nm u' b ks') (hg : u.grownBy u' (some b)) : Df.WK w0 r b gx rm vb l st ks' vF F vs nx u' := by
  have ho0 := Ng.Only.of_grown hg
  have ho : Ng.Only u u' (Df.Wr r b vF) := ⟨ho0.os, ho0.tape, ho0.output, ho0.size, fun k hk hp => ho0.block k hk (fun e => hp (.inr (.inl (by injection e with e; exact e.symm))))⟩
  have hne : ¬ (some b = some r) := fun e => h.rb (by injection e with e; exact e.symm)
  have cc : ∀ {i : Nat} {x : Value}, u.cell? ⟨r, i, none⟩ = some x → u'.cell? ⟨r, i, none⟩ = some x := fun hx => ho0.cell hx hne
  exact h.turn ho (Df.nx_refl _ _) (cc h.c0) (cc h.c1) (cc h.c2) (cc h.c3) (cc h.c4) (fun i hi => by rw [ho0.frozen h.lt hne]; exact h.z i hi) hm (ho0.row h.of fun k hk e => (h.fb k hk).2 (by injection e with e; exact e.symm)) h.ok h.rw'
theorem Df.WK.only_num {u' : World} (hg : u.grownBy u' (some b)) : Ng.Only u u' (Df.Wr r b vF) := by
  have ho0 := Ng.Only.of_grown hg
  exact ⟨ho0.os, ho0.tape, ho0.output, ho0.size, fun k hk hp => ho0.block k hk (fun e => hp (.inr (.inl (by injection e with e; exact e.symm))))⟩
theorem Df.WK.add {u' : World} {g m cap : Nat} {v1 v2 : Value} {f : Df.Fr} (h : Df.WK w0 r b gx rm vb l st ks vF F vs nx u) (q1 : Nf.Row u (Df.K r b gx vF) v1 f.1) (q2 : Nf.Row u (Df.K r b gx vF) v2 f.2) (hok : Df.FOk l f)
    (hg : u.grownBy u' vF.ownBlock) (ho : u'.ownsRow w0.heap.size 119 3 (.slice (some ⟨g, 0, none⟩) m cap) (vs.length + 1) (Df.cells vs ++ [v1, v2, .slice none 0 0])) (hl : vF.ownBlock = some g ∨ g = u.heap.size) :
    Df.WK w0 r b gx rm vb l st ks (.slice (some ⟨g, 0, none⟩) m cap) (F ++ [f]) (vs ++ [(v1, v2, .slice none 0 0)]) nx (u'.setCell ⟨r, 3, none⟩ (.slice (some ⟨g, 0, none⟩) m cap)) ∧ Ng.Only u (u'.setCell ⟨r, 3, none⟩ (.slice (some ⟨g, 0, none⟩) m cap)) (Df.Wr r b vF) ∧ Df.Nx vF (.slice (some ⟨g, 0, none⟩) m cap) u.heap.size := by
  have ho0 := Ng.Only.of_grown hg
  have ho1 := ho0.set r 3 (.slice (some ⟨g, 0, none⟩) m cap)
  have ho2 : Ng.Only u (u'.setCell ⟨r, 3, none⟩ (.slice (some ⟨g, 0, none⟩) m cap)) (Df.Wr r b vF) := ⟨ho1.os, ho1.tape, ho1.output, ho1.size, fun k hk hp => ho1.block k hk (fun e => hp (by
    rcases e with e | e
    · exact .inr (.inr e.symm)
    · exact .inl e))⟩
  have hx : Df.Nx vF (.slice (some ⟨g, 0, none⟩) m cap) u.heap.size := fun k hk => by
    simp only [Value.ownBlock] at hk
    injection hk with hk
    subst hk
    rcases hl with e | e
    · exact .inl e
    · exact .inr (by omega)
  have hne : ¬ (vF.ownBlock = some r) := fun e => (h.fb r e).1 rfl
  have hneb : ¬ (vF.ownBlock = some b) := fun e => (h.fb b e).2 rfl
  have cc : ∀ {i : Nat} {x : Value}, u.cell? ⟨r, i, none⟩ = some x → u'.cell? ⟨r, i, none⟩ = some x := fun hx => ho0.cell hx hne
  have d0 := cc h.c0; have d1 := cc h.c1; have d2 := cc h.c2; have d3 := cc h.c3; have d4 := cc h.c4
  have hgr : g ≠ r := fun e => by
    subst e
    rcases hl with e | e
    · exact hne e
    · have := h.lt; omega
  refine ⟨h.turn ho2 hx (by simp [go_sem, d0]) (by simp [go_sem, d1]) (by simp [go_sem, d2]) (by simp [go_sem, d3]) (by simp [go_sem, d4]) (fun i hi => ?_) ?_ ?_ ?_ (h.rw'.snoc q1 q2), ho2, hx⟩
  · have e1 : u'.frozen? ⟨r, i, none⟩ = false := by rw [ho0.frozen h.lt hne]; exact h.z i hi
    simpa [go_sem] using e1
  · refine h.nm.same ?_
    rw [Below.heap_setCell _ _ _ _ (fun e => h.rb e.symm)]
    exact ho0.block b h.nm.lt hneb
  · rw [List.length_append, Df.cells_append]
    exact ownsRow_setCell_other ho (by simp only [Value.ownBlock]; exact fun e => hgr (by injection e)) _
  · intro f' hf'
    rw [List.mem_append, List.mem_singleton] at hf'
    rcases hf' with hf' | rfl
    · exact h.ok _ hf'
    · exact hok
theorem Df.WK.start (h : Df.WK w0 r b gx rm vb l st ks vF F vs nx u) (st' : Nat) : Df.WK w0 r b gx rm vb l st' ks vF F vs nx (u.setCell ⟨r, 4, none⟩ (.int .i64 st')) := by
  have ho0 : Ng.Only u u (fun _ => False) := ⟨rfl, rfl, rfl, Nat.le_refl _, fun _ _ _ => rfl⟩
  have ho1 := ho0.set r 4 (.int .i64 st')
  have ho2 : Ng.Only u (u.setCell ⟨r, 4, none⟩ (.int .i64 st')) (Df.Wr r b vF) := ⟨ho1.os, ho1.tape, ho1.output, ho1.size, fun k hk hp => ho1.block k hk (fun e => hp (by
    rcases e with e | e
    · exact e.elim
    · exact .inl e))⟩
  have d0 := h.c0; have d1 := h.c1; have d2 := h.c2; have d3 := h.c3; have d4 := h.c4
  refine h.turn ho2 (Df.nx_refl _ _) (by simp [go_sem, d0]) (by simp [go_sem, d1]) (by simp [go_sem, d2]) (by simp [go_sem, d3]) (by simp [go_sem, d4]) (fun i hi => by simpa [go_sem] using h.z i hi) (h.nm.same ?_) ?_ h.ok h.rw'
  · rw [Below.heap_setCell _ _ _ _ (fun e => h.rb e.symm)]
  · exact ownsRow_setCell_other h.of (fun e => (h.fb r e).1 rfl) _
theorem Df.WK.next (h : Df.WK w0 r b gx rm vb l st ks vF F vs nx u) {g n cap : Nat} (hv : vF = .slice (some ⟨g, 0, none⟩) n cap) (hl : nx.length < vs.length) {v : Value} {row : List Nat} (q : Nf.Row u (Df.K r b gx vF) v (Ng.nums row)) :
    Df.WK w0 r b gx rm vb l st ks vF F (vs.set nx.length (vs[nx.length].1, vs[nx.length].2.1, v)) (nx ++ [row]) (u.setCell ⟨g, nx.length * 3 + 2, none⟩ v) := by
  have hgb : vF.ownBlock = some g := by rw [hv]; rfl
  have hfb := h.fb g hgb
  have hn : n = vs.length := by
    have h1 := h.of
    rw [hv] at h1
    rcases h1.2 with ⟨e, _⟩ | ⟨g', cap', cur, e, _⟩
    · injection e with e; cases e
    · injection e
  have hst : (u.setCell ⟨g, nx.length * 3 + 2, none⟩ v).ownsRow w0.heap.size 119 3 vF vs.length ((Df.cells vs).set (nx.length * 3 + 2) v) ∧ u.grownBy (u.setCell ⟨g, nx.length * 3 + 2, none⟩ v) (some g) := by
    have h1 := h.of
    rw [hv, ← hn] at h1 ⊢
    exact World.ownsRow.stored h1 _ _
  have ho0 := Ng.Only.of_grown hst.2
  have ho2 : Ng.Only u (u.setCell ⟨g, nx.length * 3 + 2, none⟩ v) (Df.Wr r b vF) := ⟨ho0.os, ho0.tape, ho0.output, ho0.size, fun k hk hp => ho0.block k hk (fun e => hp (.inr (.inr (by rw [hgb]; exact e.symm))))⟩
  have d0 := h.c0; have d1 := h.c1; have d2 := h.c2; have d3 := h.c3; have d4 := h.c4
  have hne : ¬ (some g = some r) := fun e => hfb.1 (by injection e)
  have cc : ∀ {i : Nat} {x : Value}, u.cell? ⟨r, i, none⟩ = some x → (u.setCell ⟨g, nx.length * 3 + 2, none⟩ v).cell? ⟨r, i, none⟩ = some x := fun hx => ho0.cell hx hne
  refine h.turn ho2 (Df.nx_refl _ _) (cc d0) (cc d1) (cc d2) (cc d3) (cc d4) (fun i hi => by rw [ho0.frozen h.lt hne]; exact h.z i hi) (h.nm.same (ho0.block b h.nm.lt (fun e => hfb.2 (by injection e)))) ?_ h.ok (h.rw'.next hl q)
  rw [List.length_set, ← Df.cells_set vs _ hl]
  exact hst.1
end
theorem Df.WK.ex {w0 : World} {r b gx rm : Nat} {vb : Value} {l : List Rx} {st : Nat} {ks : List (List Nat)} {vF : Value} {F : List Df.Fr} {vs : List (Value × Value × Value)} {nx : List (List Nat)} {u : World} (h : Df.WK w0 r b gx rm vb l st ks vF F vs nx u) (o : Obj) : Df.WK w0 r b u.heap.size rm vb l st ks vF F vs nx (u.alloc o) := by
  have hb := Bs.below1 u o
  have h' := h.up hb
  exact ⟨h'.bel, h'.c0, h'.c1, h'.c2, h'.c3, h'.c4, h'.z, h'.hr, h'.hb, h'.rb, by simp, h'.nm, h'.of, h'.fb, h'.ok, h.rw'.map fun v l hv => ((hv.lt).mono (fun k hk => ⟨hk.1.1, hk.1.2.1, hk.1.2.2.1, by have := hk.2; omega⟩)).up hb, h.yb.map hb.size (fun a x hx _ _ => Bs.cell_up hb hx) (fun k hk hl => ⟨hk.1, hk.2.1, hk.2.2.1, by omega⟩)⟩
theorem Df.WK.unex {w0 : World} {r b gx rm : Nat} {vb : Value} {l : List Rx} {st : Nat} {ks : List (List Nat)} {vF : Value} {F : List Df.Fr} {vs : List (Value × Value × Value)} {nx : List (List Nat)} {u : World} (h : Df.WK w0 r b gx rm vb l st ks vF F vs nx u) : Df.WK w0 r b r rm vb l st ks vF F vs nx u :=
  ⟨h.bel, h.c0, h.c1, h.c2, h.c3, h.c4, h.z, h.hr, h.hb, h.rb, h.lt, h.nm, h.of, h.fb, h.ok, h.rw'.map fun v l hv => hv.mono (fun k hk => ⟨hk.1, hk.2.1, hk.2.2.1, hk.1⟩), h.yb.map (Nat.le_refl _) (fun a x hx _ _ => hx) (fun k hk _ => ⟨hk.1, hk.2.1, hk.2.2.1, hk.1⟩)⟩
theorem Df.WK.far {w0 : World} {r b gx rm : Nat} {vb : Value} {l : List Rx} {st : Nat} {ks : List (List Nat)} {vF : Value} {F : List Df.Fr} {vs : List (Value × Value × Value)} {nx : List (List Nat)} {u : World} (h : Df.WK w0 r b gx rm vb l st ks vF F vs nx u) (hn : ¬ Df.Wr r b vF gx) (hg : w0.heap.size ≤ gx) (i : Nat) (v : Value) : Df.WK w0 r b gx rm vb l st ks vF F vs nx (u.setCell ⟨gx, i, none⟩ v) := by
  have n1 : gx ≠ r := fun e => hn (.inl e)
  have n2 : gx ≠ b := fun e => hn (.inr (.inl e))
  have n3 : some gx ≠ vF.ownBlock := fun e => hn (.inr (.inr e))
  have d0 := h.c0; have d1 := h.c1; have d2 := h.c2; have d3 := h.c3; have d4 := h.c4
  refine ⟨h.bel.setCell (p := ⟨gx, i, none⟩) hg _, Bs.cell_set d0 n1, Bs.cell_set d1 n1, Bs.cell_set d2 n1, Bs.cell_set d3 n1, Bs.cell_set d4 n1, fun j hj => ?_, h.hr, h.hb, h.rb, by simpa using h.gl, h.nm.same (Below.heap_setCell _ _ _ _ (fun e => n2 e.symm)), ownsRow_setCell_other h.of (fun e => n3 e.symm) _, h.fb, h.ok, h.rw'.map fun v l hv => hv.set (fun e => e.2.2.2 rfl) _, h.yb.map (by simp) (fun a x hx hB _ => Bs.cell_set hx (fun e => hB.2.2.2 e.symm)) (fun k hk _ => hk)⟩
  have hz := h.z j hj
  rw [World.frozen?_of_block (w := u) (Below.heap_setCell _ _ _ _ (fun e => n1 e.symm))]
  exact hz
theorem Df.WK.at {w0 : World} {r b gx rm : Nat} {vb : Value} {l : List Rx} {st : Nat} {ks : List (List Nat)} {F : List Df.Fr} {vs : List (Value × Value × Value)} {nx : List (List Nat)} {u : World} {a : Option Addr} {n c : Nat} (h : Df.WK w0 r b gx rm vb l st ks (.slice a n c) F vs nx u) : n = vs.length ∧ ∀ k (hk : k < vs.length), ∃ g, a = some ⟨g, 0, none⟩ ∧ u.cell? ⟨g, k * 3, none⟩ = some vs[k].1 ∧ u.cell? ⟨g, k * 3 + 1, none⟩ = some vs[k].2.1 ∧ u.cell? ⟨g, k * 3 + 2, none⟩ = some vs[k].2.2 ∧ u.frozen? ⟨g, k * 3 + 2, none⟩ = false := by
  have ho := h.of
  rcases ho.2 with ⟨e, h0⟩ | ⟨g, cap, cur, e, _⟩
  · injection e with e1 e2 e3
    exact ⟨by omega, fun k hk => by omega⟩
  · injection e with e1 e2 e3
    subst e1
    subst e2
    subst e3
    refine ⟨rfl, fun k hk => ⟨g, rfl, ?_⟩⟩
    have e0 : ∀ j, (⟨g, 0, none⟩ : Addr).add j = ⟨g, j, none⟩ := fun j => by unfold Addr.add; split <;> simp_all
    have hc := ho.cells (g := g) rfl
    have q := Df.cells_at vs k hk
    have q0 := hc _ _ q.1
    have q1 := hc _ _ q.2.1
    have q2 := hc _ _ q.2.2
    rw [e0] at q0 q1 q2
    exact ⟨q0, q1, q2, World.ownsRow.frozenAt ho _⟩
theorem Df.WK.atp {w0 : World} {r b gx rm : Nat} {vb : Value} {l : List Rx} {st : Nat} {ks : List (List Nat)} {F : List Df.Fr} {vs : List (Value × Value × Value)} {nx : List (List Nat)} {u : World} {a : Option Addr} {n c : Nat} (h : Df.WK w0 r b gx rm vb l st ks (.slice a n c) F vs nx u) (k : Nat) (hk : k < vs.length) : ∃ p, a = some p ∧ u.cell? (p.add (k * 3)) = some vs[k].1 ∧ u.cell? ⟨(p.add (k * 3)).block, (p.add (k * 3)).off + 1, none⟩ = some vs[k].2.1 ∧ u.cell? ⟨(p.add (k * 3)).block, (p.add (k * 3)).off + 2, none⟩ = some vs[k].2.2 ∧ u.frozen? ⟨(p.add (k * 3)).block, (p.add (k * 3)).off + 2, none⟩ = false ∧ ∃ g, p = ⟨g, 0, none⟩ ∧ p.add (k * 3) = ⟨g, k * 3, none⟩ := by
  obtain ⟨g, rfl, h1, h2, h3, h4⟩ := (h.at).2 k hk
  have e0 : (⟨g, 0, none⟩ : Addr).add (k * 3) = ⟨g, k * 3, none⟩ := by unfold Addr.add; split <;> simp_all
  exact ⟨_, rfl, by rw [e0]; exact h1, by rw [e0]; exact h2, by rw [e0]; exact h3, by rw [e0]; exact h4, g, rfl, e0⟩
end Go.Proofs.Ythapedadnbkgnaa
