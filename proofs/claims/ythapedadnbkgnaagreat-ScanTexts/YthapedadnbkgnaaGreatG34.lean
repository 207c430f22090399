/- The law ScanAll, walked. Tables of truths in memory: a row of rows. What the document's Spans and Matches answer, walked. -/
import Derived.Test.YthapedadnbkgnaaGreatG33
import Derived.Test.YthapedadnbkgnaaGreatG2
import Derived.Deep.OwnRows
import Derived.Deep.AppendLies
import Derived.Test.YthapedadnbkgnaaGreatG5
import Derived.Test.YthapedadnbkgnaaGreatG3
import Derived.Test.YthapedadnbkgnaaGreatG4
import Derived.StillTailTactics
namespace Go.Proofs.YthapedadnbkgnaaGreat
set_option linter.unusedVariables false
set_option linter.unusedSimpArgs false
open Go.RowKit
theorem Sc.fin_yes {g : Nat → Nat} {N : List (List Int)} {R : List Int} {s : ByteArray} {l : List Sc.Lx} {c : Nat} (h : Sc.Fin g N R s l c) (e : Df.rt g N R = true) : Sc.Ch g N R (Px.by s) s.size 0 l c ∧ ¬ Sc.On g N R (Px.by s) s.size c ∧ c ≤ s.size := by
  unfold Sc.Fin at h
  rwa [if_pos e] at h
theorem Sc.ch_next {g : Nat → Nat} {N : List (List Int)} {R : List Int} {b : Nat → Nat} {n t c i : Nat} {l : List Sc.Lx} (hi : i < l.length) (h : Sc.Ch g N R b n t (l.drop i) c) : l[i] = Sc.px g N R b n t ∧ Sc.On g N R b n t ∧ Sc.Ch g N R b n (Sc.pc g N R b t (n - t)).upto (l.drop (i + 1)) c := by
  rw [List.drop_eq_getElem_cons hi] at h
  exact ⟨h.2.1, h.1, h.2.2⟩
end Go.Proofs.YthapedadnbkgnaaGreat
namespace Go.Proofs.YthapedadnbkgnaaGreat
set_option linter.unusedVariables false
set_option linter.unusedSimpArgs false
open Go.RowKit
def Tb.sl (n p : Nat) : Value := .slice (some ⟨p, 0, none⟩) n n
theorem Tb.inj {ps : List Nat} (h : ps.Nodup) {i j : Nat} (hi : i < ps.length) (hj : j < ps.length) (e : ps[i] = ps[j]) : i = j := by
  have := List.pairwise_iff_getElem.1 h
  rcases Nat.lt_trichotomy i j with h1 | h1 | h1
  · exact absurd e (this i j hi hj h1)
  · exact h1
  · exact absurd e.symm (this j i hj hi h1)
structure Tb (w : World) (base N g : Nat) (ps : List Nat) (T : Nat → Nat → Bool) : Prop where
  len : ps.length = N
  row : ∀ i (h : i < ps.length), w.rowIs ps[i] 4 N (fun k => .bool (T i k))
  nd : ps.Nodup
  lo : ∀ p ∈ ps, base ≤ p
  out : ∀ i (h : i < ps.length), w.cell? ⟨g, i, none⟩ = some (Tb.sl N ps[i])
  far : g ∉ ps
  glt : g < w.heap.size
theorem Tb.up {w w' : World} {base N g : Nat} {ps : List Nat} {T : Nat → Nat → Bool} (h : Tb w base N g ps T) (hb : Below w.heap.size w w') : Tb w' base N g ps T :=
  ⟨h.len, fun i hi => (h.row i hi).of_block (hb.block _ (h.row i hi).lt), h.nd, h.lo, fun i hi => Bs.cell_up hb (h.out i hi), h.far, Nat.lt_of_lt_of_le h.glt hb.size⟩
theorem Tb.mono {w : World} {base base' N g : Nat} {ps : List Nat} {T : Nat → Nat → Bool} (h : Tb w base N g ps T) (hb : base' ≤ base) : Tb w base' N g ps T :=
  ⟨h.len, h.row, h.nd, fun p hp => Nat.le_trans hb (h.lo p hp), h.out, h.far, h.glt⟩
theorem Tb.congr {w : World} {base N g : Nat} {ps : List Nat} {T T' : Nat → Nat → Bool} (h : Tb w base N g ps T) (e : ∀ a b, a < N → b < N → T a b = T' a b) : Tb w base N g ps T' :=
  ⟨h.len, fun i hi => (h.row i hi).congr (fun k hk => by rw [e i k (by rw [← h.len]; exact hi) hk]), h.nd, h.lo, h.out, h.far, h.glt⟩
theorem Tb.get {w : World} {base N g : Nat} {ps : List Nat} {T : Nat → Nat → Bool} (h : Tb w base N g ps T) {i k : Nat} (hi : i < N) (hk : k < N) : ∃ p, (∃ h : i < ps.length, ps[i] = p) ∧ base ≤ p ∧ w.cell? ⟨g, i, none⟩ = some (.slice (some ⟨p, 0, none⟩) N N) ∧ w.cell? ⟨p, k, none⟩ = some (.bool (T i k)) ∧ w.frozen? ⟨p, k, none⟩ = false ∧ ∀ v, Tb (w.setCell ⟨p, k, none⟩ (.bool v)) base N g ps (fun a b => if a = i ∧ b = k then v else T a b) := by
  have hi' : i < ps.length := by rw [h.len]; exact hi
  refine ⟨ps[i], ⟨hi', rfl⟩, h.lo _ (List.getElem_mem hi'), h.out i hi', (h.row i hi').cell hk, (h.row i hi').frozen k, fun v => ⟨h.len, fun j hj => ?_, h.nd, h.lo, fun j hj => ?_, h.far, ?_⟩⟩
  · by_cases e : j = i
    · subst e
      refine ((h.row j hj).set k (.bool v)).congr (fun b _ => ?_)
      by_cases e : b = k <;> simp [e]
    · refine ((h.row j hj).setOther (fun e' => e ?_) _).congr (fun b _ => by simp [e])
      exact Tb.inj h.nd hj hi' e'
  · refine Bs.cell_set (h.out j hj) (fun e => h.far ?_)
    have e' : ps[i] = g := e
    rw [← e']; exact List.getElem_mem hi'
  · rw [show (w.setCell ⟨ps[i], k, none⟩ (.bool v)).heap.size = w.heap.size by simp [go_sem]]; exact h.glt
structure Tb.Own (base N : Nat) (v : Value) (ps : List Nat) (w : World) : Prop where
  own : w.ownsRow base 100 1 v ps.length (ps.map (Tb.sl N))
  far : ∀ p ∈ ps, some p ≠ v.ownBlock
  row : ∀ i (h : i < ps.length), w.rowIs ps[i] 4 N (fun _ => .bool false)
  nd : ps.Nodup
  lo : ∀ p ∈ ps, base ≤ p
theorem Tb.Own.up {base N : Nat} {v : Value} {ps : List Nat} {w w' : World} (h : Tb.Own base N v ps w) (hb : Below w.heap.size w w') : Tb.Own base N v ps w' := by
  have hne : v.ownBlock = none ∨ v.ownBlock ≠ none := by
    cases v.ownBlock with
    | none => exact .inl rfl
    | some k => exact .inr (by simp)
  exact ⟨h.own.kept (row := none) ⟨hb.os, hb.tape, hb.output, hb.size, fun k hk _ => hb.block k hk⟩ hne, h.far, fun i hi => (h.row i hi).of_block (hb.block _ (h.row i hi).lt), h.nd, h.lo⟩
theorem Tb.infoB : (Tryz.prog.info? 100).map (fun i => (i.zero, i.size, i.bytes)) = some (some (.slice none 0 0), 1, 24) := by kernel_rfl
theorem Tb.append {ops : Array Oper} {rest : List Oper} {o : Oper} {a : Act} {Q : Exit → Act → World → Prop} {W : World} (hgd : o.guard = none) (s x : Operand)
    (ho : o.op = .call { callee := .builtin .append, args := #[s, x], argTypes := #[101, 101] })
    (base N : Nat) (v : Value) (ps : List Nat) (hs : a.eval s = v) (O : Tb.Own base N v ps W) (B c p : Nat) (hx : a.eval x = .slice (some ⟨B, 0, none⟩) 1 c)
    (hB : W.heap[B]? = some (.cells #[.slice (some ⟨p, 0, none⟩) N N] 100)) (hp : W.rowIs p 4 N (fun _ => .bool false)) (hpn : p ∉ ps) (hpb : base ≤ p) (hpo : some p ≠ v.ownBlock) (hl : ps.length ≤ 100000) (hbase : base ≤ W.heap.size)
    (h : ∀ v' w', Tb.Own base N v' (ps ++ [p]) w' → W.grownBy w' v.ownBlock → wpList Tryz.prog ops Q rest (a.put o.dst v') w') : wpList Tryz.prog ops Q (o :: rest) a W := by
  obtain ⟨iE, hiE⟩ : ∃ i, Tryz.prog.info? 100 = some i := by
    have := Tb.infoB
    cases h : Tryz.prog.info? 100 with
    | none => rw [h] at this; simp at this
    | some i => exact ⟨i, rfl⟩
  have hz := Tb.infoB
  rw [hiE] at hz
  simp at hz
  obtain ⟨hz0, hz1, hz2⟩ := hz
  refine wpList_append_lies W hgd s x 101 ho base 100 iE _ 1 24 Tryz.underlying101 hiE hz0 hz1 hz2 rfl (by decide) v ps.length (ps.map (Tb.sl N)) hs O.own ⟨B, 0, none⟩ 1 c [Tb.sl N p] hx rfl (World.news_of_block hB) (by simp [Tb.sl, Value.oneCell']) (by decide) (by unfold maxLen; omega) (by omega) hbase _ rfl ?_
  intro g c' w' o1 o2 o3 o4
  have hfar : ∀ q ∈ ps ++ [p], some q ≠ v.ownBlock ∧ q < W.heap.size ∧ base ≤ q := by
    intro q hq
    rcases List.mem_append.1 hq with hq | hq
    · refine ⟨O.far q hq, ?_, O.lo q hq⟩
      obtain ⟨i, hi, rfl⟩ := List.getElem_of_mem hq
      exact (O.row i hi).lt
    · rw [List.mem_singleton.1 hq]; exact ⟨hpo, hp.lt, hpb⟩
  refine h _ _ ⟨by simpa [List.length_append, List.map_append] using o1, fun q hq => ?_, fun i hi => ?_, ?_, fun q hq => (hfar q hq).2.2⟩ o2
  · obtain ⟨h1, h2, _⟩ := hfar q hq
    simp only [Value.ownBlock]
    rcases o3 with e | e
    · rw [← e]; exact h1
    · intro e'
      injection e' with e'
      omega
  · have hq := hfar (ps ++ [p])[i] (List.getElem_mem hi)
    refine World.rowIs.of_block (w := W) ?_ (o2.block _ hq.2.1 hq.1)
    rw [List.getElem_append]
    split
    · rename_i h1; exact O.row i h1
    · rename_i h1
      have : i - ps.length = 0 := by simp at hi; omega
      simp [this]; exact hp
  · rw [List.nodup_append]
    exact ⟨O.nd, by simp, fun a ha b hb e => by rw [List.mem_singleton.1 hb] at e; exact hpn (e ▸ ha)⟩
theorem Tb.Own.done {base N : Nat} {v : Value} {ps : List Nat} {w : World} (h : Tb.Own base N v ps w) (hl : ps.length = N) (hN : 0 < N) : ∃ g cap, v = .slice (some ⟨g, 0, none⟩) N cap ∧ Tb w base N g ps (fun _ _ => false) := by
  obtain ⟨g, cap, rfl, hb, hlt⟩ := h.own.form (by omega)
  refine ⟨g, cap, by rw [hl], hl, fun i hi => h.row i hi, h.nd, h.lo, fun i hi => ?_, fun hg => h.far g hg (by simp [Value.ownBlock]), hlt⟩
  have := h.own.cells (g := g) (by simp [Value.ownBlock]) i (Tb.sl N ps[i]) (by simp [hi])
  have e0 : (⟨g, 0, none⟩ : Addr).add i = ⟨g, i, none⟩ := by unfold Addr.add; split <;> simp_all
  rw [e0] at this
  exact this
open Go.RowKit
theorem Tb.Own.form {base N : Nat} {v : Value} {ps : List Nat} {w : World} (h : Tb.Own base N v ps w) : ∃ a n c, v = .slice a n c := by
  rcases h.own.2 with ⟨h0, _⟩ | ⟨g, cap, cur, e, _⟩
  · exact ⟨_, _, _, h0⟩
  · exact ⟨_, _, _, e⟩
def Tb.by (s : ByteArray) (i : Nat) : Nat := if h : i < s.size then s[i].toNat else 0
structure Tb.W2 (U : World) (N g : Nat) (ps : List Nat) (T : Nat → Nat → Bool) (b k : Nat) (f : Nat → Bool) (a : Option Addr) (n cap : Nat) (u : World) : Prop where
  tb : Tb u U.heap.size N g ps T
  nd : Rx.Cell u ⟨b, 0, none⟩ k f a n cap
  bel : Below U.heap.size U u
theorem Tb.W2.up {U : World} {N g : Nat} {ps : List Nat} {T : Nat → Nat → Bool} {b k : Nat} {f : Nat → Bool} {a : Option Addr} {n cap : Nat} {u u' : World} (h : Tb.W2 U N g ps T b k f a n cap u) (hb : Below u.heap.size u u') : Tb.W2 U N g ps T b k f a n cap u' := ⟨h.tb.up hb, h.nd.up hb, Bs.below_up h.bel hb⟩
end Go.Proofs.YthapedadnbkgnaaGreat
