/- Expressions in memory by which blocks they lie in; rows of expressions that grow by append. The program's expressions: what one, span, joined and star answer, walked. The program's expressions: what shaped, right and Right answer, walked. -/
import Derived.Test.YthapedadnbkgnaaG7
namespace Go.Proofs.Ythapedadnbkgnaa
set_option linter.unusedVariables false
set_option linter.unusedSimpArgs false
open Go.RowKit
mutual
def Rx.InB (w : World) (B : Nat → Prop) : Rx → Addr → Prop
  | .node k f l, x => k < 256 ∧ ∃ a cap, Rx.Cell w x k f a l.length cap ∧ Rx.InBL w B l a 0
def Rx.InBL (w : World) (B : Nat → Prop) : List Rx → Option Addr → Nat → Prop
  | [], _, _ => True
  | y :: r, a, i => (∃ p, a = some p ∧ B p.block ∧ Rx.InB w B y (p.add (i * 6))) ∧ Rx.InBL w B r a (i + 1)
end
def Rx.IsB (w : World) (B : Nat → Prop) : Rx → Value → Prop
  | .node k f l, v => k < 256 ∧ ∃ a cap, v = Rx.hdr k f a l.length cap ∧ Rx.InBL w B l a 0
mutual
theorem Rx.InB.is {w : World} {B : Nat → Prop} : ∀ {x : Rx} {p : Addr}, Rx.InB w B x p → Rx.In w x p
  | .node k f l, p, h => by
    simp only [Rx.InB] at h
    simp only [Rx.In]
    obtain ⟨hk, a, cap, hc, hl⟩ := h
    exact ⟨hk, a, cap, hc, Rx.InBL.is hl⟩
theorem Rx.InBL.is {w : World} {B : Nat → Prop} : ∀ {l : List Rx} {a : Option Addr} {i : Nat}, Rx.InBL w B l a i → Rx.InL w l a i
  | [], _, _, _ => by simp [Rx.InL]
  | y :: r, a, i, h => by
    simp only [Rx.InBL] at h
    simp only [Rx.InL]
    obtain ⟨⟨p, e, _, hp⟩, hr⟩ := h
    exact ⟨⟨p, e, Rx.InB.is hp⟩, Rx.InBL.is hr⟩
end
theorem Rx.IsB.is {w : World} {B : Nat → Prop} {x : Rx} {v : Value} (h : Rx.IsB w B x v) : Rx.Is w x v := by
  cases x
  obtain ⟨hk, a, cap, e, hl⟩ := h
  exact ⟨hk, a, cap, e, hl.is⟩
mutual
theorem Rx.InB.turn {w w' : World} {B B' : Nat → Prop} (hb : ∀ (y : Addr) (u : Value), B y.block → w.cell? y = some u → w'.cell? y = some u) (hB : ∀ k, B k → B' k) : ∀ {x : Rx} {p : Addr}, B p.block → Rx.InB w B x p → Rx.InB w' B' x p
  | .node k f l, p, hp, h => by
    simp only [Rx.InB] at h ⊢
    obtain ⟨hk, a, cap, hc, hl⟩ := h
    exact ⟨hk, a, cap, ⟨hb _ _ hp hc.c0, hb _ _ hp hc.c1, hb _ _ hp hc.c2, hb _ _ hp hc.c3, hb _ _ hp hc.c4, hb _ _ hp hc.c5⟩, Rx.InBL.turn hb hB hl⟩
theorem Rx.InBL.turn {w w' : World} {B B' : Nat → Prop} (hb : ∀ (y : Addr) (u : Value), B y.block → w.cell? y = some u → w'.cell? y = some u) (hB : ∀ k, B k → B' k) : ∀ {l : List Rx} {a : Option Addr} {i : Nat}, Rx.InBL w B l a i → Rx.InBL w' B' l a i
  | [], _, _, _ => by simp [Rx.InBL]
  | y :: r, a, i, h => by
    simp only [Rx.InBL] at h ⊢
    obtain ⟨⟨p, e, hp0, hp⟩, hr⟩ := h
    exact ⟨⟨p, e, hB _ hp0, Rx.InB.turn hb hB (by rw [Rx.add_block]; exact hp0) hp⟩, Rx.InBL.turn hb hB hr⟩
end
theorem Rx.IsB.turn {w w' : World} {B B' : Nat → Prop} (hb : ∀ (y : Addr) (u : Value), B y.block → w.cell? y = some u → w'.cell? y = some u) (hB : ∀ k, B k → B' k) {x : Rx} {v : Value} (h : Rx.IsB w B x v) : Rx.IsB w' B' x v := by
  cases x
  obtain ⟨hk, a, cap, e, hl⟩ := h
  exact ⟨hk, a, cap, e, hl.turn hb hB⟩
theorem Rx.IsB.up {w w' : World} {B : Nat → Prop} (hb : Below w.heap.size w w') {x : Rx} {v : Value} (h : Rx.IsB w B x v) : Rx.IsB w' B x v := h.turn (fun _ _ _ hc => Bs.cell_up hb hc) (fun _ h => h)
theorem Rx.IsB.mono {w : World} {B B' : Nat → Prop} (hB : ∀ k, B k → B' k) {x : Rx} {v : Value} (h : Rx.IsB w B x v) : Rx.IsB w B' x v := h.turn (fun _ _ _ hc => hc) hB
theorem Rx.IsB.grown {w w' : World} {B : Nat → Prop} {row : Option Nat} (hg : w.grownBy w' row) (hB : ∀ k, B k → some k ≠ row) {x : Rx} {v : Value} (h : Rx.IsB w B x v) : Rx.IsB w' B x v := h.turn (fun y u hy hc => hg.cell hc (hB _ hy)) (fun _ h => h)
theorem Rx.IsB.lt {w : World} {B : Nat → Prop} {x : Rx} {v : Value} (h : Rx.IsB w B x v) : Rx.IsB w (fun k => B k ∧ k < w.heap.size) x v := by
  have key : ∀ (m : Nat), (∀ (x : Rx) (p : Addr), x.size ≤ m → Rx.InB w B x p → Rx.InB w (fun k => B k ∧ k < w.heap.size) x p) ∧ (∀ (l : List Rx) (a : Option Addr) (i : Nat), Rx.sizeL l ≤ m → Rx.InBL w B l a i → Rx.InBL w (fun k => B k ∧ k < w.heap.size) l a i) := by
    intro m
    induction m with
    | zero =>
      refine ⟨fun x p h => by have := x.size_pos; omega, fun l a i h _ => ?_⟩
      cases l with
      | nil => simp [Rx.InBL]
      | cons y r => simp only [Rx.sizeL] at h; have := y.size_pos; omega
    | succ m ih =>
      have hx : ∀ (x : Rx) (p : Addr), x.size ≤ m + 1 → Rx.InB w B x p → Rx.InB w (fun k => B k ∧ k < w.heap.size) x p := by
        rintro ⟨k, f, l⟩ p hm h
        simp only [Rx.InB] at h ⊢
        simp only [Rx.size] at hm
        obtain ⟨hk, a, cap, hc, hl⟩ := h
        exact ⟨hk, a, cap, hc, ih.2 l a 0 (by omega) hl⟩
      refine ⟨hx, fun l => ?_⟩
      induction l with
      | nil => intro a i _ _; simp [Rx.InBL]
      | cons y r ihr =>
        intro a i hm h
        simp only [Rx.InBL] at h ⊢
        simp only [Rx.sizeL] at hm
        obtain ⟨⟨p, e, hp0, hp⟩, hr⟩ := h
        have hlt : p.block < w.heap.size := by
          cases y
          simp only [Rx.InB] at hp
          obtain ⟨_, _, _, hc, _⟩ := hp
          have := World.block_lt_of_cell? w _ hc.c0
          rwa [Rx.add_block] at this
        exact ⟨⟨p, e, ⟨hp0, hlt⟩, hx y _ (by omega) hp⟩, ihr a (i + 1) (by omega) hr⟩
  cases x
  obtain ⟨hk, a, cap, e, hl⟩ := h
  exact ⟨hk, a, cap, e, (key _).2 _ _ _ (Nat.le_refl _) hl⟩
def Rx.six (k : Nat) (f : Nat → Bool) (a : Option Addr) (n cap : Nat) : List Value := [.int .u8 k, .int .u64 (Bs.word f 0), .int .u64 (Bs.word f 1), .int .u64 (Bs.word f 2), .int .u64 (Bs.word f 3), .slice a n cap]
def Rx.Hs (w : World) (B : Nat → Prop) : List Rx → List Value → Prop
  | [], cs => cs = []
  | x :: r, cs => ∃ k f a n cap rest, cs = Rx.six k f a n cap ++ rest ∧ Rx.IsB w B x (Rx.hdr k f a n cap) ∧ Rx.Hs w B r rest
theorem Rx.Hs.turn {w w' : World} {B B' : Nat → Prop} (hb : ∀ (y : Addr) (u : Value), B y.block → w.cell? y = some u → w'.cell? y = some u) (hB : ∀ k, B k → B' k) : ∀ {xs : List Rx} {cs : List Value}, Rx.Hs w B xs cs → Rx.Hs w' B' xs cs
  | [], _, h => h
  | x :: r, _, h => by
    obtain ⟨k, f, a, n, cap, rest, e, hx, hr⟩ := h
    exact ⟨k, f, a, n, cap, rest, e, hx.turn hb hB, Rx.Hs.turn hb hB hr⟩
theorem Rx.Hs.snoc {w : World} {B : Nat → Prop} {y : Rx} {k : Nat} {f : Nat → Bool} {a : Option Addr} {n cap : Nat} (hy : Rx.IsB w B y (Rx.hdr k f a n cap)) : ∀ {xs : List Rx} {cs : List Value}, Rx.Hs w B xs cs → Rx.Hs w B (xs ++ [y]) (cs ++ Rx.six k f a n cap)
  | [], cs, h => by
    rw [Rx.Hs] at h; subst h
    exact ⟨k, f, a, n, cap, [], by simp, hy, rfl⟩
  | x :: r, cs, h => by
    obtain ⟨k', f', a', n', cap', rest, e, hx, hr⟩ := h
    subst e
    exact ⟨k', f', a', n', cap', rest ++ Rx.six k f a n cap, by simp, hx, Rx.Hs.snoc hy hr⟩
theorem Rx.Hs.inBL {w : World} {B : Nat → Prop} {g : Nat} (hp : B g) : ∀ {xs : List Rx} {cs : List Value} {i : Nat}, Rx.Hs w B xs cs → (∀ j u, cs[j]? = some u → w.cell? ⟨g, i * 6 + j, none⟩ = some u) → Rx.InBL w B xs (some ⟨g, 0, none⟩) i
  | [], _, _, _, _ => by simp [Rx.InBL]
  | x :: r, cs, i, h, hc => by
    obtain ⟨k, f, a, n, cap, rest, e, hx, hr⟩ := h
    subst e
    simp only [Rx.InBL]
    refine ⟨⟨_, rfl, hp, ?_⟩, Rx.Hs.inBL hp hr ?_⟩
    · obtain ⟨k', f', l'⟩ := x
      obtain ⟨hk, a', cap', e, hl⟩ := hx
      have q0 := hc 0 _ (by simp [Rx.six]; rfl)
      have q1 := hc 1 _ (by simp [Rx.six]; rfl)
      have q2 := hc 2 _ (by simp [Rx.six]; rfl)
      have q3 := hc 3 _ (by simp [Rx.six]; rfl)
      have q4 := hc 4 _ (by simp [Rx.six]; rfl)
      have q5 := hc 5 _ (by simp [Rx.six]; rfl)
      have e0 : (⟨g, 0, none⟩ : Addr).add (i * 6) = ⟨g, i * 6, none⟩ := by unfold Addr.add; split <;> simp_all
      simp only [Rx.hdr, Value.agg.injEq, Array.mk.injEq, List.cons.injEq, Value.int.injEq, Value.slice.injEq, true_and, and_true] at e
      obtain ⟨e1, e2, e3, e4, e5, e6, e7, e8⟩ := e
      rw [e1] at q0; rw [e2] at q1; rw [e3] at q2; rw [e4] at q3; rw [e5] at q4; rw [e6, e7, e8] at q5
      rw [e0]
      exact ⟨hk, a', cap', ⟨q0, q1, q2, q3, q4, q5⟩, hl⟩
    · intro j u hu
      have := hc (6 + j) u (by rw [List.getElem?_append_right (by simp [Rx.six])]; simpa [Rx.six] using hu)
      rw [show (i + 1) * 6 + j = i * 6 + (6 + j) by omega]
      exact this
theorem Rx.Hs.lt {w : World} {B : Nat → Prop} : ∀ {xs : List Rx} {cs : List Value}, Rx.Hs w B xs cs → Rx.Hs w (fun k => B k ∧ k < w.heap.size) xs cs
  | [], _, h => h
  | x :: r, _, h => by
    obtain ⟨k, f, a, n, cap, rest, e, hx, hr⟩ := h
    exact ⟨k, f, a, n, cap, rest, e, hx.lt, Rx.Hs.lt hr⟩
def Rx.Own (base : Nat) (v : Value) (xs : List Rx) (w : World) : Prop := (∃ cs, w.ownsRow base 28 6 v xs.length cs ∧ Rx.Hs w (fun k => base ≤ k ∧ some k ≠ v.ownBlock) xs cs) ∧ (xs = [] → v = .slice none 0 0)
theorem Rx.own_nil (base : Nat) (w : World) : Rx.Own base (.slice none 0 0) [] w := ⟨⟨[], World.ownsRow_nil _ _ _ _, rfl⟩, fun _ => rfl⟩
theorem Rx.Own.lt {base : Nat} {v : Value} {xs : List Rx} {w : World} (h : Rx.Own base v xs w) : ∀ k, v.ownBlock = some k → base ≤ k ∧ k < w.heap.size := by
  obtain ⟨⟨cs, h1, _⟩, _⟩ := h
  exact h1.lt
theorem Rx.Own.grown {base : Nat} {v : Value} {xs : List Rx} {w w' : World} {row : Option Nat} (h : Rx.Own base v xs w) (hg : w.grownBy w' row) (hr : ∀ k, row = some k → k < base) : Rx.Own base v xs w' := by
  obtain ⟨⟨cs, h1, h2⟩, h3⟩ := h
  have hne : v.ownBlock = none ∨ v.ownBlock ≠ row := by
    cases hv : v.ownBlock with
    | none => exact .inl rfl
    | some k => exact .inr (fun e => by have := hr k e.symm; have := h1.lt k hv; omega)
  exact ⟨⟨cs, h1.kept hg hne, h2.turn (fun y u hy hc => hg.cell hc (fun e => by have := hr _ e.symm; omega)) (fun _ h => h)⟩, h3⟩
theorem Rx.Own.up {base : Nat} {v : Value} {xs : List Rx} {w w' : World} (h : Rx.Own base v xs w) (hb : Below w.heap.size w w') : Rx.Own base v xs w' :=
  h.grown (row := none) ⟨hb.os, hb.tape, hb.output, hb.size, fun k hk _ => hb.block k hk⟩ (fun k hk => by simp at hk)
theorem Rx.Own.slice {base : Nat} {v : Value} {xs : List Rx} {w : World} (h : Rx.Own base v xs w) : ∃ a cap, v = .slice a xs.length cap ∧ Rx.InBL w (base ≤ ·) xs a 0 := by
  obtain ⟨⟨cs, h1, h2⟩, h3⟩ := h
  by_cases he : xs = []
  · subst he
    rw [h3 rfl]
    exact ⟨none, 0, rfl, by simp [Rx.InBL]⟩
  · have hl : 0 < xs.length := List.length_pos_iff.2 he
    obtain ⟨g, cap, rfl, hb, hlt⟩ := h1.form hl
    refine ⟨_, cap, rfl, ?_⟩
    refine Rx.Hs.inBL (B := (base ≤ ·)) hb (h2.turn (fun _ _ _ hc => hc) (fun k h => h.1)) ?_
    intro j u hu
    have := h1.cells (g := g) (by simp [Value.ownBlock]) j u hu
    have e0 : (⟨g, 0, none⟩ : Addr).add j = ⟨g, j, none⟩ := by unfold Addr.add; split <;> simp_all
    rw [e0] at this
    simpa using this
theorem Rx.Own.push {base : Nat} {v : Value} {xs : List Rx} {W w' : World} {cs : List Value} {y : Rx} {k : Nat} {f : Nat → Bool} {a : Option Addr} {n cap g c : Nat}
    (h2 : Rx.Hs W (fun k => base ≤ k ∧ some k ≠ v.ownBlock) xs cs)
    (hy : Rx.IsB W (fun k => base ≤ k ∧ some k ≠ v.ownBlock) y (Rx.hdr k f a n cap)) (ho : w'.ownsRow base 28 6 (.slice (some ⟨g, 0, none⟩) (xs.length + 1) c) (xs.length + 1) (cs ++ Rx.six k f a n cap)) (hg : W.grownBy w' v.ownBlock) (hat : v.ownBlock = some g ∨ g = W.heap.size) : Rx.Own base (.slice (some ⟨g, 0, none⟩) (xs.length + 1) c) (xs ++ [y]) w' := by
  refine ⟨⟨cs ++ Rx.six k f a n cap, by rw [List.length_append]; exact ho, ?_⟩, fun e => by simp at e⟩
  have := (Rx.Hs.snoc hy h2).lt
  refine this.turn (fun q u hq hc => hg.cell hc hq.1.2) (fun k hk => ⟨hk.1.1, ?_⟩)
  simp only [Value.ownBlock]
  rcases hat with e | e
  · rw [← e]; exact hk.1.2
  · intro e'
    injection e' with e'
    have := hk.2
    omega
theorem Rx.infoR : (Try.prog.info? 28).map (fun i => (i.zero, i.size, i.bytes)) = some (some (.agg #[.int .u8 0, .int .u64 0, .int .u64 0, .int .u64 0, .int .u64 0, .slice none 0 0]), 6, 64) := by kernel_rfl
theorem Rx.append {ops : Array Oper} {rest : List Oper} {o : Oper} {a : Act} {Q : Exit → Act → World → Prop} {W : World} (hgd : o.guard = none) (s x : Operand)
    (ho : o.op = .call { callee := .builtin .append, args := #[s, x], argTypes := #[26, 26] })
    (base : Nat) (v : Value) (xs : List Rx) (hs : a.eval s = v) (O : Rx.Own base v xs W) (B c : Nat) (hx : a.eval x = .slice (some ⟨B, 0, none⟩) 1 c)
    (k : Nat) (f : Nat → Bool) (b : Option Addr) (n cap : Nat) (hB : W.heap[B]? = some (.cells #[.int .u8 k, .int .u64 (Bs.word f 0), .int .u64 (Bs.word f 1), .int .u64 (Bs.word f 2), .int .u64 (Bs.word f 3), .slice b n cap] 28))
    (y : Rx) (hy : Rx.IsB W (fun k => base ≤ k ∧ some k ≠ v.ownBlock) y (Rx.hdr k f b n cap)) (hl : xs.length ≤ 100000) (hbase : base ≤ W.heap.size)
    (h : ∀ v' w', Rx.Own base v' (xs ++ [y]) w' → W.grownBy w' v.ownBlock → wpList Try.prog ops Q rest (a.put o.dst v') w') : wpList Try.prog ops Q (o :: rest) a W := by
  obtain ⟨iE, hiE⟩ : ∃ i, Try.prog.info? 28 = some i := by
    have := Rx.infoR
    cases h : Try.prog.info? 28 with
    | none => rw [h] at this; simp at this
    | some i => exact ⟨i, rfl⟩
  have hz := Rx.infoR
  rw [hiE] at hz
  simp at hz
  obtain ⟨hz0, hz1, hz2⟩ := hz
  obtain ⟨⟨cs, O1, O2⟩, O3⟩ := O
  refine wpList_append_lies W hgd s x 26 ho base 28 iE _ 6 64 Try.underlying26 hiE hz0 hz1 hz2 rfl (by decide) v xs.length cs hs O1 ⟨B, 0, none⟩ 1 c (Rx.six k f b n cap) hx rfl (World.news_of_block hB) (by simp [Rx.six, Value.oneCell']) (by decide) (by unfold maxLen; omega) (by omega) hbase _ rfl ?_
  intro g c' w' o1 o2 o3 o4
  exact h _ _ (Rx.Own.push O2 hy o1 o2 o3) o2
theorem Rx.own_one {base : Nat} {w : World} {y : Rx} {k : Nat} {f : Nat → Bool} {b : Option Addr} {n cap : Nat} (hy : Rx.IsB w (base ≤ ·) y (Rx.hdr k f b n cap)) (hb : base ≤ w.heap.size) : Rx.Own base (.slice (some ⟨w.heap.size, 0, none⟩) 1 1) [y] (w.alloc (.cells #[.int .u8 k, .int .u64 (Bs.word f 0), .int .u64 (Bs.word f 1), .int .u64 (Bs.word f 2), .int .u64 (Bs.word f 3), .slice b n cap] 28)) := by
  refine ⟨⟨Rx.six k f b n cap, ⟨rfl, .inr ⟨w.heap.size, 1, _, rfl, hb, heap_alloc_new w _, by simp, by unfold maxLen; omega, rfl, rfl⟩⟩, ?_⟩, fun e => by simp at e⟩
  refine ⟨k, f, b, n, cap, [], by simp, ?_, rfl⟩
  refine hy.lt.turn (fun q u _ hc => Bs.cell_up (Bs.below1 w _) hc) (fun k hk => ⟨hk.1, ?_⟩)
  simp only [Value.ownBlock]
  intro e
  injection e with e
  have := hk.2
  omega
open Go.RowKit
def Px.XPost (w : World) (B : Nat → Prop) (x : Rx) (e : Ending) (w' : World) : Prop := ∃ v, e = .returned v ∧ Rx.IsB w' B x v ∧ Below w.heap.size w w'
theorem Rx.isB_one (w : World) (B : Nat → Prop) (f : Nat → Bool) : Rx.IsB w B (Rx.one f) (Rx.hdr 1 f none 0 0) := ⟨by omega, none, 0, rfl, trivial⟩
theorem Rx.isB_nil (w : World) (B : Nat → Prop) : Rx.IsB w B Rx.nil (Rx.hdr 0 (fun _ => false) none 0 0) := ⟨by omega, none, 0, rfl, trivial⟩
set_option maxRecDepth 100000 in
set_option maxHeartbeats 400000 in
theorem pone_any (f : Nat → Bool) (B : Nat → Prop) (w : World) : Calls Try.prog 107 #[Bs.val f] w (Px.XPost w B (Rx.one f)) := by
  unfold Bs.val
  go_enter Try.func107, Try.ntmps107
  go_wp2_with fail
  exact bodyPost_ret (v := Rx.hdr 1 f none 0 0) (by simp [results, Try.results107, go_sem, Rx.hdr]) rfl ⟨_, rfl, Rx.isB_one _ B f, Bs.below2 _ _ _⟩
structure Rx.Nod (w : World) (b : Nat) (k : Nat) (f : Nat → Bool) (a : Option Addr) (n cap : Nat) : Prop where
  cell : Rx.Cell w ⟨b, 0, none⟩ k f a n cap
  frz : ∀ i, i < 6 → w.frozen? ⟨b, i, none⟩ = false
theorem Rx.Nod.lt {w : World} {b k : Nat} {f : Nat → Bool} {a : Option Addr} {n cap : Nat} (h : Rx.Nod w b k f a n cap) : b < w.heap.size := World.block_lt_of_cell? w _ h.cell.c0
theorem Rx.Nod.up {w w' : World} {b k : Nat} {f : Nat → Bool} {a : Option Addr} {n cap : Nat} (h : Rx.Nod w b k f a n cap) (hb : Below w.heap.size w w') : Rx.Nod w' b k f a n cap :=
  ⟨h.cell.up hb, fun i hi => by rw [hb.frozen h.lt]; exact h.frz i hi⟩
theorem Rx.Nod.grown {w w' : World} {r b k : Nat} {f : Nat → Bool} {a : Option Addr} {n cap : Nat} (h : Rx.Nod w b k f a n cap) (hg : w.grownBy w' (some r)) (hn : b ≠ r) : Rx.Nod w' b k f a n cap :=
  ⟨h.cell.grown hg hn, fun i hi => by rw [hg.frozen_far ⟨b, i, none⟩ h.lt (by simpa using hn)]; exact h.frz i hi⟩
theorem Rx.nod_new (w : World) (k : Nat) (f : Nat → Bool) (a : Option Addr) (n cap : Nat) : Rx.Nod (w.alloc (.cells #[.int .u8 k, .int .u64 (Bs.word f 0), .int .u64 (Bs.word f 1), .int .u64 (Bs.word f 2), .int .u64 (Bs.word f 3), .slice a n cap] 28)) w.heap.size k f a n cap :=
  ⟨Rx.cell_new w k f a n cap _, fun i hi => by simp [go_sem]⟩
theorem Rx.nod_zero (w : World) : Rx.Nod (w.alloc (.cells #[.int .u8 0, .int .u64 0, .int .u64 0, .int .u64 0, .int .u64 0, .slice none 0 0] 28)) w.heap.size 0 (fun _ => false) none 0 0 := by
  have := Rx.nod_new w 0 (fun _ => false) none 0 0
  simpa [Bs.word_none] using this
def Rx.wr (w : World) (b : Nat) (k : Nat) (f : Nat → Bool) (a : Option Addr) (n cap : Nat) : World := (((((w.setCell ⟨b, 0, none⟩ (.int .u8 k)).setCell ⟨b, 1, none⟩ (.int .u64 (Bs.word f 0))).setCell ⟨b, 2, none⟩ (.int .u64 (Bs.word f 1))).setCell ⟨b, 3, none⟩ (.int .u64 (Bs.word f 2))).setCell ⟨b, 4, none⟩ (.int .u64 (Bs.word f 3))).setCell ⟨b, 5, none⟩ (.slice a n cap)
theorem Rx.Nod.wr {w : World} {b k' : Nat} {f' : Nat → Bool} {a' : Option Addr} {n' cap' : Nat} (h : Rx.Nod w b k' f' a' n' cap') (k : Nat) (f : Nat → Bool) (a : Option Addr) (n cap : Nat) : Rx.Nod (Rx.wr w b k f a n cap) b k f a n cap := by
  obtain ⟨⟨c0, c1, c2, c3, c4, c5⟩, z⟩ := h
  simp only [Nat.zero_add] at c0 c1 c2 c3 c4 c5
  unfold Rx.wr
  refine ⟨⟨?_, ?_, ?_, ?_, ?_, ?_⟩, fun i hi => ?_⟩
  · simp [go_sem, c0, c1, c2, c3, c4, c5]
  · simp [go_sem, c0, c1, c2, c3, c4, c5]
  · simp [go_sem, c0, c1, c2, c3, c4, c5]
  · simp [go_sem, c0, c1, c2, c3, c4, c5]
  · simp [go_sem, c0, c1, c2, c3, c4, c5]
  · simp [go_sem, c0, c1, c2, c3, c4, c5]
  · simpa using z i hi
theorem Rx.wr_below {n0 : Nat} {w v : World} (h : Below n0 w v) {b : Nat} (hb : n0 ≤ b) (k : Nat) (f : Nat → Bool) (a : Option Addr) (n cap : Nat) : Below n0 w (Rx.wr v b k f a n cap) :=
  (((((h.setCell (p := ⟨b, 0, none⟩) hb _).setCell (p := ⟨b, 1, none⟩) hb _).setCell (p := ⟨b, 2, none⟩) hb _).setCell (p := ⟨b, 3, none⟩) hb _).setCell (p := ⟨b, 4, none⟩) hb _).setCell (p := ⟨b, 5, none⟩) hb _
theorem Rx.wr_far {w v : World} {row : Option Nat} (h : w.grownBy v row) {b : Nat} (hb : w.heap.size ≤ b) (k : Nat) (f : Nat → Bool) (a : Option Addr) (n cap : Nat) : w.grownBy (Rx.wr v b k f a n cap) row :=
  Rx.grown_far (Rx.grown_far (Rx.grown_far (Rx.grown_far (Rx.grown_far (Rx.grown_far h hb _ _) hb _ _) hb _ _) hb _ _) hb _ _) hb _ _
theorem Rx.wr_cell {w : World} {b k : Nat} {f : Nat → Bool} {a : Option Addr} {n cap : Nat} {p : Addr} {u : Value} (h : w.cell? p = some u) (hn : b ≠ p.block) : (Rx.wr w b k f a n cap).cell? p = some u :=
  Bs.cell_set (Bs.cell_set (Bs.cell_set (Bs.cell_set (Bs.cell_set (Bs.cell_set h hn) hn) hn) hn) hn) hn
theorem Rx.IsB.wr {w : World} {B : Nat → Prop} {x : Rx} {v : Value} (h : Rx.IsB w B x v) {b : Nat} (hn : ¬ B b) (k : Nat) (f : Nat → Bool) (a : Option Addr) (n cap : Nat) : Rx.IsB (Rx.wr w b k f a n cap) B x v :=
  h.turn (fun y u hy hc => Rx.wr_cell hc (fun e => hn (by rw [e]; exact hy))) (fun _ h => h)
set_option maxRecDepth 100000 in
set_option maxHeartbeats 400000 in
theorem pspan_any (lo hi : Nat) (B : Nat → Prop) (w : World) : Calls Try.prog 110 #[.int .u8 lo, .int .u8 hi] w (Px.XPost w B (Rx.one (Rx.rng lo hi))) := by
  have N := Rx.nod_zero w
  have A := Bs.below1 w (.cells #[.int .u8 0, .int .u64 0, .int .u64 0, .int .u64 0, .int .u64 0, .slice none 0 0] 28)
  go_enter Try.func110, Try.ntmps110
  go_wp2_with fail
  generalize w.alloc (.cells #[.int .u8 0, .int .u64 0, .int .u64 0, .int .u64 0, .int .u64 0, .slice none 0 0] 28) = W at *
  refine (rangeB_any lo hi W).mono ?_
  rintro e w1 ⟨rfl, hb⟩
  replace N := N.up hb
  replace A := Bs.below_up A hb
  clear hb
  go_wp2_with fail
  refine (pone_any (Bs.rng lo hi) B w1).mono ?_
  rintro e w2 ⟨v, rfl, hx, hb⟩
  replace N := N.up hb
  replace A := Bs.below_up A hb
  clear hb
  rw [Px.rng_eq] at hx
  obtain ⟨hk, a, cap, rfl, hl⟩ := hx
  have HX := Lib.hid (show Rx.IsB w2 B (Rx.one (Rx.rng lo hi)) (Rx.hdr 1 (Rx.rng lo hi) a 0 cap) from ⟨hk, a, cap, rfl, hl⟩)
  have HN := Lib.hid N
  obtain ⟨⟨c0, c1, c2, c3, c4, c5⟩, z⟩ := N
  simp only [Nat.zero_add] at c0 c1 c2 c3 c4 c5
  have z0 := z 0 (by decide); have z1 := z 1 (by decide); have z2 := z 2 (by decide); have z3 := z 3 (by decide); have z4 := z 4 (by decide); have z5 := z 5 (by decide)
  clear z hl
  unfold Rx.hdr
  go_wp2_with fail
  have C := (HN.out.wr 1 (Rx.rng lo hi) a 0 cap).cell
  refine bodyPost_ret (v := Rx.hdr 1 (Rx.rng lo hi) a 0 cap) (by simp [results, Try.results110, go_sem, c0, c1, c2, c3, c4, c5, Rx.hdr]) rfl ⟨_, rfl, ⟨hk, a, cap, rfl, trivial⟩, ?_⟩
  exact Rx.wr_below A (Nat.le_refl _) 1 (Rx.rng lo hi) a 0 cap
end Go.Proofs.Ythapedadnbkgnaa
namespace Go.Proofs.Ythapedadnbkgnaa
set_option linter.unusedVariables false
set_option linter.unusedSimpArgs false
open Go.RowKit
def Px.shp (k n : Nat) : Bool := decide (k ≤ 4) && !(decide (k < 2) && decide (0 < n)) && !(k == 4 && n != 1)
theorem Px.wf_node (k : Nat) (f : Nat → Bool) (l : List Rx) : (Rx.node k f l).wf = (Px.shp k l.length && Rx.wfL l) := by simp [Rx.wf, Px.shp]
set_option maxRecDepth 100000 in
set_option maxHeartbeats 400000 in
theorem shaped_any (k : Nat) (f : Nat → Bool) (a : Option Addr) (n cap : Nat) (w : World) : Calls Try.prog 65 #[Rx.hdr k f a n cap] w fun e w' => e = .returned (.bool (Px.shp k n)) ∧ Below w.heap.size w w' := by
  have B := Bs.below1 w (.cells #[.int .u8 k, .int .u64 (Bs.word f 0), .int .u64 (Bs.word f 1), .int .u64 (Bs.word f 2), .int .u64 (Bs.word f 3), .slice a n cap] 28)
  unfold Rx.hdr
  go_enter Try.func65, Try.ntmps65
  by_cases h0 : k = 0
  · subst h0
    have HP := Lib.hid (show Px.shp 0 n = ((n : Int) == 0) by rw [Bool.eq_iff_iff]; simp [Px.shp])
    go_wp2_with fail
    go_ret
    exact ⟨by rw [HP.out]; rfl, B⟩
  by_cases h1 : k = 1
  · subst h1
    have HP := Lib.hid (show Px.shp 1 n = ((n : Int) == 0) by rw [Bool.eq_iff_iff]; simp [Px.shp])
    go_wp2_with fail
    go_ret
    exact ⟨by rw [HP.out]; rfl, B⟩
  by_cases h4 : k = 4
  · subst h4
    have HP := Lib.hid (show Px.shp 4 n = ((n : Int) == 1) by rw [Bool.eq_iff_iff]; simp [Px.shp]; omega)
    go_wp2_with fail
    go_ret
    exact ⟨by rw [HP.out]; rfl, B⟩
  have e0 : ((k : Int) == 0) = false := by simp; omega
  have e1 : ((k : Int) == 1) = false := by simp; omega
  have e4 : ((k : Int) == 4) = false := by simp; omega
  by_cases h2 : k = 2
  · have e2 : ((k : Int) == 2) = true := by simp; omega
    have HP := Lib.hid (show Px.shp k n = true by rw [h2]; simp [Px.shp])
    clear h0 h1 h4 h2
    go_wp2_with fail
    go_ret
    exact ⟨by rw [HP.out]; rfl, B⟩
  have e2 : ((k : Int) == 2) = false := by simp; omega
  have HP := Lib.hid (show Px.shp k n = ((k : Int) == 3) by
    rw [Bool.eq_iff_iff]
    simp [Px.shp]
    omega)
  clear h0 h1 h4 h2
  go_wp2_with fail
  go_ret
  exact ⟨by rw [HP.out]; rfl, B⟩
structure Px.Tal (w : World) (r : Nat) (L : Int) : Prop where
  cell : w.cell? ⟨r, 0, none⟩ = some (.int .i64 L)
  frz : w.frozen? ⟨r, 0, none⟩ = false
  only : ∀ j v, w.cell? ⟨r, j, none⟩ = some v → j < 1
theorem Px.Tal.lt {w : World} {r : Nat} {L : Int} (h : Px.Tal w r L) : r < w.heap.size := World.block_lt_of_cell? w _ h.cell
theorem Px.Tal.up {w w' : World} {r : Nat} {L : Int} (h : Px.Tal w r L) (hb : Below w.heap.size w w') : Px.Tal w' r L :=
  ⟨Bs.cell_up hb h.cell, by rw [hb.frozen h.lt]; exact h.frz, fun j v hv => h.only j v (by rw [← hb.cell (p := ⟨r, j, none⟩) h.lt]; exact hv)⟩
theorem Px.Tal.set {w : World} {r : Nat} {L : Int} (h : Px.Tal w r L) (M : Int) : Px.Tal (w.setCell ⟨r, 0, none⟩ (.int .i64 M)) r M := by
  obtain ⟨c, z, only⟩ := h
  refine ⟨by simp [go_sem, c], by simpa using z, fun j v hv => ?_⟩
  by_cases e : 0 = j
  · omega
  · rw [World.cell?_setCell_other _ _ _ _ (by simp [e])] at hv
    exact only j v hv
mutual
theorem Rx.In.tal {w w' : World} {r : Nat} (only : ∀ j v, w.cell? ⟨r, j, none⟩ = some v → j < 5) (hg : w.grownBy w' (some r)) : ∀ {x : Rx} {p : Addr}, Rx.In w x p → Rx.In w' x p
  | .node k f l, p, h => by
    simp only [Rx.In] at h ⊢
    obtain ⟨hk, a, cap, hc, hl⟩ := h
    refine ⟨hk, a, cap, hc.grown hg (fun e => ?_), Rx.InL.tal only hg hl⟩
    have h5 := hc.c5
    rw [e] at h5
    have := only _ _ h5
    omega
theorem Rx.InL.tal {w w' : World} {r : Nat} (only : ∀ j v, w.cell? ⟨r, j, none⟩ = some v → j < 5) (hg : w.grownBy w' (some r)) : ∀ {l : List Rx} {a : Option Addr} {i : Nat}, Rx.InL w l a i → Rx.InL w' l a i
  | [], _, _, _ => by simp [Rx.InL]
  | y :: t, a, i, h => by
    simp only [Rx.InL] at h ⊢
    obtain ⟨⟨p, e, hp⟩, hr⟩ := h
    exact ⟨⟨p, e, Rx.In.tal only hg hp⟩, Rx.InL.tal only hg hr⟩
end
theorem Rx.Is.tal {w w' : World} {r : Nat} (only : ∀ j v, w.cell? ⟨r, j, none⟩ = some v → j < 5) (hg : w.grownBy w' (some r)) {x : Rx} {v : Value} (h : Rx.Is w x v) : Rx.Is w' x v := by
  cases x
  obtain ⟨hk, a, cap, e, hl⟩ := h
  exact ⟨hk, a, cap, e, hl.tal only hg⟩
def Px.ok (x : Rx) (d : Nat) (L : Int) : Bool := x.wf && decide (x.depth + d ≤ 61) && decide ((x.size : Int) ≤ L)
def Px.okL (l : List Rx) (d : Nat) (L : Int) : Bool := Rx.wfL l && decide (Rx.depthL l + d ≤ 61) && decide ((Rx.sizeL l : Int) ≤ L)
theorem Px.ok_iff {x : Rx} {d : Nat} {L : Int} : Px.ok x d L = true ↔ x.wf = true ∧ x.depth + d ≤ 61 ∧ (x.size : Int) ≤ L := by simp [Px.ok, and_assoc]
theorem Px.okL_iff {l : List Rx} {d : Nat} {L : Int} : Px.okL l d L = true ↔ Rx.wfL l = true ∧ Rx.depthL l + d ≤ 61 ∧ (Rx.sizeL l : Int) ≤ L := by simp [Px.okL, and_assoc]
theorem Px.ok_node (k : Nat) (f : Nat → Bool) (l : List Rx) (d : Nat) (L : Int) (h : ¬ L - 1 < 0) (hd : ¬ 60 < d) (hs : Px.shp k l.length = true) : Px.ok (.node k f l) d L = Px.okL l (d + 1) (L - 1) := by
  rw [Bool.eq_iff_iff, Px.ok_iff, Px.okL_iff, Px.wf_node, hs]
  simp only [Rx.depth, Rx.size, Bool.true_and]
  constructor
  · rintro ⟨h1, h2, h3⟩; exact ⟨h1, by omega, by omega⟩
  · rintro ⟨h1, h2, h3⟩; exact ⟨h1, by omega, by omega⟩
theorem Px.ok_no (k : Nat) (f : Nat → Bool) (l : List Rx) (d : Nat) (L : Int) (h : L - 1 < 0 ∨ 60 < d ∨ Px.shp k l.length = false) : Px.ok (.node k f l) d L = false := by
  rw [← Bool.not_eq_true, Px.ok_iff, Px.wf_node]
  simp only [Rx.depth, Rx.size, Bool.and_eq_true]
  rintro ⟨⟨h1, _⟩, h2, h3⟩
  rcases h with h | h | h
  · omega
  · omega
  · rw [h] at h1; simp at h1
theorem Px.okL_cons (x : Rx) (r : List Rx) (d : Nat) (L : Int) : Px.okL (x :: r) d L = (Px.ok x d L && Px.okL r d (L - x.size)) := by
  rw [Bool.eq_iff_iff, Bool.and_eq_true, Px.ok_iff, Px.okL_iff, Px.okL_iff]
  simp only [Rx.wfL, Rx.depthL, Rx.sizeL, Bool.and_eq_true]
  constructor
  · rintro ⟨⟨h1, h2⟩, h3, h4⟩; exact ⟨⟨h1, by omega, by omega⟩, h2, by omega, by omega⟩
  · rintro ⟨⟨h1, h2, h3⟩, h4, h5, h6⟩; exact ⟨⟨h1, h4⟩, by omega, by omega⟩
def Px.RPost (w : World) (r : Nat) (b : Bool) (L : Int) (e : Ending) (w' : World) : Prop := e = .returned (.bool b) ∧ (∃ M, Px.Tal w' r M ∧ (b = true → M = L)) ∧ w.grownBy w' (some r)
set_option maxRecDepth 100000 in
set_option maxHeartbeats 1000000 in
theorem right_any (r : Nat) : ∀ (m : Nat) (x : Rx), x.size ≤ m → ∀ (v : Value) (d : Nat) (L : Int) (w : World), Rx.Is w x v → Px.Tal w r L → 0 ≤ L → L ≤ 400 → 1 ≤ d → d ≤ 61 → Calls Try.prog 43 #[.pointer (some ⟨r, 0, none⟩), v, .int .i64 d] w (Px.RPost w r (Px.ok x d L) (L - x.size)) := by
  intro m
  induction m with
  | zero => intro x h; have := x.size_pos; omega
  | succ m ih =>
    rintro ⟨k, f, l⟩ hm v d L w hx hT hL0 hL4 h1 h61
    obtain ⟨hk, a, cap, rfl, hl⟩ := hx
    simp only [Rx.size] at hm
    have IH := Lib.hid ih; clear ih
    obtain ⟨n, hn⟩ : ∃ n, l.length = n := ⟨_, rfl⟩
    have HN := Lib.hid hn
    unfold Rx.hdr
    rw [hn]
    clear hn
    have A := Bs.below1 w (.cells #[.int .u8 k, .int .u64 (Bs.word f 0), .int .u64 (Bs.word f 1), .int .u64 (Bs.word f 2), .int .u64 (Bs.word f 3), .slice a n cap] 28)
    have N := Rx.nod_new w k f a n cap
    have nr : w.heap.size ≠ r := by have := hT.lt; omega
    have HL := Lib.hid (hl.up A); clear hl
    replace hT := hT.up A
    have t0 := hT.cell
    have tz := hT.frz
    have w1 : IntKind.i64.wrap (L - 1) = L - 1 := IntWalk.i64_in _ (by omega)
    go_enter Try.func43, Try.ntmps43
    have GA := Lib.hid (Rx.grown_of r A)
    have HT := Lib.hid hT
    have HK := Lib.hid (show (Rx.node k f l).size = 1 + Rx.sizeL l from rfl)
    clear A N hT
    by_cases hz : L - 1 < 0
    · have HO := Lib.hid (Px.ok_no k f l d L (.inl hz))
      have e1 : decide (L - 1 < 0) = true := by simp only [decide_eq_true_eq]; exact hz
      generalize (Rx.node k f l).size = X at *
      generalize Px.ok (Rx.node k f l) d L = b at *
      clear hz
      go_wp2_with fail
      go_ret
      exact ⟨by rw [HO.out]; rfl, ⟨L - 1, HT.out.set _, by rw [HO.out]; simp⟩, Rx.grown_set GA.out _ _⟩
    have e1 : decide (L - 1 < 0) = false := by simp only [decide_eq_false_iff_not]; exact hz
    by_cases hd : 60 < d
    · have HO := Lib.hid (Px.ok_no k f l d L (.inr (.inl hd)))
      have e2 : decide ((60 : Int) < d) = true := by simp; omega
      generalize (Rx.node k f l).size = X at *
      generalize Px.ok (Rx.node k f l) d L = b at *
      clear hz hd
      go_wp2_with fail
      go_ret
      exact ⟨by rw [HO.out]; rfl, ⟨L - 1, HT.out.set _, by rw [HO.out]; simp⟩, Rx.grown_set GA.out _ _⟩
    have e2 : decide ((60 : Int) < d) = false := by simp; omega
    have SH := Lib.hid (fun w => shaped_any k f a n cap w)
    unfold Rx.hdr at SH
    have HO := Lib.hid (show Px.shp k n = false → Px.ok (Rx.node k f l) d L = false from fun h => Px.ok_no k f l d L (.inr (.inr (by rw [HN.out]; exact h))))
    have HY := Lib.hid (show Px.shp k n = true → Px.ok (Rx.node k f l) d L = Px.okL l (d + 1) (L - 1) from fun h => Px.ok_node k f l d L hz hd (by rw [HN.out]; exact h))
    generalize (Rx.node k f l).size = X at *
    generalize Px.ok (Rx.node k f l) d L = b at *
    have C := Rx.cell_new w k f a n cap 28
    obtain ⟨c0, c1, c2, c3, c4, c5⟩ := C
    simp only [Nat.zero_add] at c0 c1 c2 c3 c4 c5
    have HL1 := Lib.hid (HL.out.tal (fun j v h => by have := HT.out.only j v h; omega) (Rx.grown_set (Rx.grown_of r (Below.refl _ _)) 0 (.int .i64 (L - 1))))
    have HT1 := Lib.hid (HT.out.set (L - 1))
    have G1 := Lib.hid (Rx.grown_set GA.out 0 (.int .i64 (L - 1)))
    have d5 : ((w.alloc (.cells #[.int .u8 k, .int .u64 (Bs.word f 0), .int .u64 (Bs.word f 1), .int .u64 (Bs.word f 2), .int .u64 (Bs.word f 3), .slice a n cap] 28)).setCell ⟨r, 0, none⟩ (.int .i64 (L - 1))).cell? ⟨w.heap.size, 5, none⟩ = some (.slice a n cap) := Bs.cell_set c5 (Ne.symm nr)
    go_wp2_with fail
    generalize (w.alloc (.cells #[.int .u8 k, .int .u64 (Bs.word f 0), .int .u64 (Bs.word f 1), .int .u64 (Bs.word f 2), .int .u64 (Bs.word f 3), .slice a n cap] 28)).setCell ⟨r, 0, none⟩ (.int .i64 (L - 1)) = V at *
    clear c0 c1 c2 c3 c4 c5 t0 tz HL HT GA
    refine (SH.out V).mono ?_
    rintro e w2 ⟨rfl, hb⟩
    replace d5 := Bs.cell_up hb d5
    have HL := Lib.hid (HL1.out.up hb)
    have HT := Lib.hid (HT1.out.up hb)
    have G := Lib.hid (Px.grown_up G1.out hb)
    clear hb HL1 HT1 G1 SH
    cases hs : Px.shp k n
    · have HB := Lib.hid (HO.out hs)
      clear HO HY hs
      go_wp2_with fail
      go_ret
      exact ⟨by rw [HB.out]; rfl, ⟨L - 1, HT.out, by rw [HB.out]; simp⟩, G.out⟩
    have HB := Lib.hid (HY.out hs)
    clear HO HY hs
    go_wp2_with fail
    go_loopw [33] (fun i wr => ∃ q : Nat, q ≤ n ∧ i = .int .i64 q ∧ Rx.InL wr l a 0 ∧ ∃ M : Int, Px.Tal wr r M ∧ 0 ≤ M ∧ M ≤ 400 ∧ M = L - 1 - Rx.sizeL (l.take q) ∧ w.grownBy wr (some r) ∧ b = Px.okL (l.drop q) (d + 1) M) (fun i _ => n - (intOf i).toNat)
    case atStart => exact ⟨0, by omega, rfl, HL.out, L - 1, HT.out, by omega, by omega, by simp [Rx.sizeL], G.out, by rw [List.drop_zero]; exact HB.out⟩
    case round =>
      clear HL HT G HB d5
      obtain ⟨q, hq, rfl, HL, M, hT, hM0, hM4, hMs, G, hb⟩ := hrel
      have HB := Lib.hid hb
      have HM := Lib.hid hMs
      have HG := Lib.hid G
      have hq4 : q ≤ 400 := by
        have h1 := Rx.length_le (l.take q)
        rw [List.length_take, HN.out] at h1
        omega
      clear hb hMs G
      by_cases hlt : q < n
      · have hlt' : q < l.length := by rw [HN.out]; exact hlt
        have HLL := Lib.hid HL
        obtain ⟨p, rfl, hp⟩ := HL.get q hlt'
        clear HL
        rw [Nat.zero_add] at hp
        have hs : l[q].size ≤ m := by have := (Rx.part_le (List.getElem_mem hlt')).1; omega
        have HT1 := Lib.hid (show Rx.sizeL (l.take (q + 1)) = Rx.sizeL (l.take q) + l[q].size by
          rw [List.take_succ_eq_append_getElem hlt']
          generalize l.take q = t
          induction t with
          | nil => simp [Rx.sizeL]
          | cons y t ih => simp only [List.cons_append, Rx.sizeL, ih]; omega)
        have HD := Lib.hid (show Px.okL (l.drop q) (d + 1) M = (Px.ok l[q] (d + 1) M && Px.okL (l.drop (q + 1)) (d + 1) (M - l[q].size)) by rw [List.drop_eq_getElem_cons hlt', Px.okL_cons])
        have HZ := Lib.hid (show Px.ok l[q] (d + 1) M = true → (l[q].size : Int) ≤ M from fun h => (Px.ok_iff.1 h).2.2)
        have IQ := Lib.hid (fun v d L w => IH.out l[q] hs v d L w)
        generalize l[q] = y at *
        obtain ⟨k1, f1, a1, n1, cap1, ⟨x0, x1, x2, x3, x4, x5⟩, hi⟩ := hp.open
        clear hp
        have A := Bs.below1 wr (.cells #[.int .u8 k1, .int .u64 (Bs.word f1 0), .int .u64 (Bs.word f1 1), .int .u64 (Bs.word f1 2), .int .u64 (Bs.word f1 3), .slice a1 n1 cap1] 28)
        have HI := Lib.hid (hi.up A)
        unfold Rx.hdr at HI
        have HL2 := Lib.hid (HLL.out.up A)
        have HT2 := Lib.hid (hT.up A)
        have HG2 := Lib.hid (Px.grown_up HG.out A)
        clear hi HLL HG hT
        go_wp2_with fail
        have CQ := IQ.out _ (d + 1) M _ HI.out HT2.out hM0 hM4 (by omega) (by omega)
        rw [show ((d + 1 : Nat) : Int) = (d : Int) + 1 by simp] at CQ
        refine CQ.mono ?_
        rintro e w3 ⟨rfl, ⟨M', hT3, hM'⟩, g3⟩
        have HL3 := Lib.hid (HL2.out.tal (fun j v h => by have := HT2.out.only j v h; omega) g3)
        have HG3 := Lib.hid (HG2.out.trans g3)
        clear g3 CQ IQ HI HL2 HT2 HG2 x0 x1 x2 x3 x4 x5 A
        cases ho : Px.ok y (d + 1) M
        · have HB2 := Lib.hid (show b = false by rw [HB.out, HD.out, ho]; rfl)
          clear HB HD hM' HZ ho
          go_wp2_with fail
          go_ret
          exact ⟨by rw [HB2.out]; rfl, ⟨M', hT3, by rw [HB2.out]; simp⟩, HG3.out⟩
        · have HB2 := Lib.hid (show b = Px.okL (l.drop (q + 1)) (d + 1) (M - y.size) by rw [HB.out, HD.out, ho]; rfl)
          have hM2 := hM' ho
          have hM3 := HZ.out ho
          clear HB HD hM' HZ ho
          subst hM2
          have hT4 := Lib.hid hT3
          clear hT3
          go_wp2_with fail
          go_roundw
          case rel => exact ⟨q + 1, by omega, by go_num, HL3.out, _, hT4.out, by omega, by omega, by rw [HT1.out, HM.out]; omega, HG3.out, HB2.out⟩
          case measure => simp [intOf]; omega
      · have HQ := Lib.hid (show q = l.length by rw [HN.out]; omega)
        have HB2 := Lib.hid (show b = true by
          rw [HB.out, HQ.out, List.drop_length]
          rw [Px.okL_iff]
          exact ⟨rfl, by simp [Rx.depthL]; omega, by simp [Rx.sizeL]; omega⟩)
        have HM2 := Lib.hid (show M = L - X by rw [HM.out, HK.out, HQ.out, List.take_length]; omega)
        have hT4 := Lib.hid hT
        clear hT HB HL
        go_wp2_with fail
        go_ret
        exact ⟨by rw [HB2.out]; rfl, ⟨M, hT4.out, fun _ => HM2.out⟩, HG.out⟩
theorem Px.ok_may (x : Rx) : Px.ok x 1 400 = x.may 1 := by
  rw [Bool.eq_iff_iff, Px.ok_iff, Rx.may_iff]
  constructor
  · rintro ⟨h1, h2, h3⟩; exact ⟨h1, h2, by omega⟩
  · rintro ⟨h1, h2, h3⟩; exact ⟨h1, h2, by omega⟩
set_option maxRecDepth 100000 in
set_option maxHeartbeats 1000000 in
theorem Right_any (x : Rx) (v : Value) (w : World) (hx : Rx.Is w x v) : Calls Try.prog 23 #[v] w fun e w' => e = .returned (.bool (x.may 1)) ∧ Below w.heap.size w w' := by
  have hv : ∃ k f b n c, v = Rx.hdr k f b n c := by
    cases x
    obtain ⟨_, b, c, e, _⟩ := hx
    exact ⟨_, _, b, _, c, e⟩
  obtain ⟨k, f, b, n, c, rfl⟩ := hv
  have A := Bs.below2 w (.cells #[.int .u8 k, .int .u64 (Bs.word f 0), .int .u64 (Bs.word f 1), .int .u64 (Bs.word f 2), .int .u64 (Bs.word f 3), .slice b n c] 28) (.cells #[.int .i64 400] 102)
  have HX := Lib.hid (hx.up A)
  have T : Px.Tal ((w.alloc (.cells #[.int .u8 k, .int .u64 (Bs.word f 0), .int .u64 (Bs.word f 1), .int .u64 (Bs.word f 2), .int .u64 (Bs.word f 3), .slice b n c] 28)).alloc (.cells #[.int .i64 400] 102)) (w.heap.size + 1) 400 := by
    have hs : (w.alloc (.cells #[.int .u8 k, .int .u64 (Bs.word f 0), .int .u64 (Bs.word f 1), .int .u64 (Bs.word f 2), .int .u64 (Bs.word f 3), .slice b n c] 28)).heap.size = w.heap.size + 1 := by simp [go_sem]
    generalize w.alloc (.cells #[.int .u8 k, .int .u64 (Bs.word f 0), .int .u64 (Bs.word f 1), .int .u64 (Bs.word f 2), .int .u64 (Bs.word f 3), .slice b n c] 28) = W at *
    rw [← hs]
    refine ⟨by simp [go_sem], by simp [go_sem], fun j v hv => ?_⟩
    rw [cell_of_row _ _ j #[.int .i64 400] 102 (0, 0) (heap_alloc_new W _)] at hv
    have := (Array.getElem?_eq_some_iff.1 hv).1
    simpa using this
  have HT := Lib.hid T
  clear T hx
  unfold Rx.hdr at HX ⊢
  go_enter Try.func23, Try.ntmps23
  go_wp2_with fail
  generalize (w.alloc (.cells #[.int .u8 k, .int .u64 (Bs.word f 0), .int .u64 (Bs.word f 1), .int .u64 (Bs.word f 2), .int .u64 (Bs.word f 3), .slice b n c] 28)).alloc (.cells #[.int .i64 400] 102) = V at *
  have R := right_any (w.heap.size + 1) x.size x (Nat.le_refl _) _ 1 400 V HX.out HT.out (by omega) (by omega) (by omega) (by omega)
  rw [Px.ok_may] at R
  refine R.mono ?_
  rintro e w1 ⟨rfl, _, g⟩
  have B := Lib.hid (A.grown g A.size (fun j hj => by injection hj with hj; omega))
  clear R g A
  go_wp2_with fail
  go_ret
  exact ⟨rfl, B.out⟩
end Go.Proofs.Ythapedadnbkgnaa
