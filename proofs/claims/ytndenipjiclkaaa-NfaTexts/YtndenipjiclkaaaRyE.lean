/- Expressions in memory by which blocks they lie in; rows of expressions that grow by append. The program's expressions: what one, span, joined and star answer, walked. -/
import Derived.Test.YtndenipjiclkaaaRyC
namespace Go.Proofs.Ytndenipjiclkaaa
set_option linter.unusedVariables false
set_option linter.unusedSimpArgs false
open Go.RowKit
mutual
/-- the expression lies at an address, its kids in blocks of a kind -/
def Rx.InB (w : World) (B : Nat → Prop) : Rx → Addr → Prop
  | .node k f l, x => k < 256 ∧ ∃ a cap, Rx.Cell w x k f a l.length cap ∧ Rx.InBL w B l a 0
def Rx.InBL (w : World) (B : Nat → Prop) : List Rx → Option Addr → Nat → Prop
  | [], _, _ => True
  | y :: r, a, i => (∃ p, a = some p ∧ B p.block ∧ Rx.InB w B y (p.add (i * 6))) ∧ Rx.InBL w B r a (i + 1)
end
/-- the value is the expression, its kids in blocks of a kind -/
def Rx.IsB (w : World) (B : Nat → Prop) : Rx → Value → Prop
  | .node k f l, v => k < 256 ∧ ∃ a cap, v = Rx.hdr k f a l.length cap ∧ Rx.InBL w B l a 0
mutual
theorem Rx.InB.is {w : World} {B : Nat → Prop} : ∀ {x : Rx} {p : Addr}, Rx.InB w B x p → Rx.In w x p
  | .node k f l, p, h => by
    simp only [Rx.InB] at h
    simp only [Rx.In]
    obtain ⟨hk, a, cap, hc, hl⟩ := h
    exact ⟨hk, a, cap, hc, Rx.InBL.is hl⟩
theorem Rx.InBL.is {w : World} {B : Nat → Prop} : ∀ {l : List Rx} {a : Option Addr} {i : Nat}, Rx.InBL w B l a i → Rx.InL w l a i
  | [], _, _, _ => by simp [Rx.InL]
  | y :: r, a, i, h => by
    simp only [Rx.InBL] at h
    simp only [Rx.InL]
    obtain ⟨⟨p, e, _, hp⟩, hr⟩ := h
    exact ⟨⟨p, e, Rx.InB.is hp⟩, Rx.InBL.is hr⟩
end
theorem Rx.IsB.is {w : World} {B : Nat → Prop} {x : Rx} {v : Value} (h : Rx.IsB w B x v) : Rx.Is w x v := by
  cases x
  obtain ⟨hk, a, cap, e, hl⟩ := h
  exact ⟨hk, a, cap, e, hl.is⟩
mutual
theorem Rx.InB.turn {w w' : World} {B B' : Nat → Prop} (hb : ∀ (y : Addr) (u : Value), B y.block → w.cell? y = some u → w'.cell? y = some u) (hB : ∀ k, B k → B' k) : ∀ {x : Rx} {p : Addr}, B p.block → Rx.InB w B x p → Rx.InB w' B' x p
  | .node k f l, p, hp, h => by
    simp only [Rx.InB] at h ⊢
    obtain ⟨hk, a, cap, hc, hl⟩ := h
    exact ⟨hk, a, cap, ⟨hb _ _ hp hc.c0, hb _ _ hp hc.c1, hb _ _ hp hc.c2, hb _ _ hp hc.c3, hb _ _ hp hc.c4, hb _ _ hp hc.c5⟩, Rx.InBL.turn hb hB hl⟩
theorem Rx.InBL.turn {w w' : World} {B B' : Nat → Prop} (hb : ∀ (y : Addr) (u : Value), B y.block → w.cell? y = some u → w'.cell? y = some u) (hB : ∀ k, B k → B' k) : ∀ {l : List Rx} {a : Option Addr} {i : Nat}, Rx.InBL w B l a i → Rx.InBL w' B' l a i
  | [], _, _, _ => by simp [Rx.InBL]
  | y :: r, a, i, h => by
    simp only [Rx.InBL] at h ⊢
    obtain ⟨⟨p, e, hp0, hp⟩, hr⟩ := h
    exact ⟨⟨p, e, hB _ hp0, Rx.InB.turn hb hB (by rw [Rx.add_block]; exact hp0) hp⟩, Rx.InBL.turn hb hB hr⟩
end
theorem Rx.IsB.turn {w w' : World} {B B' : Nat → Prop} (hb : ∀ (y : Addr) (u : Value), B y.block → w.cell? y = some u → w'.cell? y = some u) (hB : ∀ k, B k → B' k) {x : Rx} {v : Value} (h : Rx.IsB w B x v) : Rx.IsB w' B' x v := by
  cases x
  obtain ⟨hk, a, cap, e, hl⟩ := h
  exact ⟨hk, a, cap, e, hl.turn hb hB⟩
theorem Rx.IsB.up {w w' : World} {B : Nat → Prop} (hb : Below w.heap.size w w') {x : Rx} {v : Value} (h : Rx.IsB w B x v) : Rx.IsB w' B x v := h.turn (fun _ _ _ hc => Bs.cell_up hb hc) (fun _ h => h)
theorem Rx.IsB.mono {w : World} {B B' : Nat → Prop} (hB : ∀ k, B k → B' k) {x : Rx} {v : Value} (h : Rx.IsB w B x v) : Rx.IsB w B' x v := h.turn (fun _ _ _ hc => hc) hB
theorem Rx.IsB.grown {w w' : World} {B : Nat → Prop} {row : Option Nat} (hg : w.grownBy w' row) (hB : ∀ k, B k → some k ≠ row) {x : Rx} {v : Value} (h : Rx.IsB w B x v) : Rx.IsB w' B x v := h.turn (fun y u hy hc => hg.cell hc (hB _ hy)) (fun _ h => h)
/-- the expression's blocks are there -/
theorem Rx.IsB.lt {w : World} {B : Nat → Prop} {x : Rx} {v : Value} (h : Rx.IsB w B x v) : Rx.IsB w (fun k => B k ∧ k < w.heap.size) x v := by
  have key : ∀ (m : Nat), (∀ (x : Rx) (p : Addr), x.size ≤ m → Rx.InB w B x p → Rx.InB w (fun k => B k ∧ k < w.heap.size) x p) ∧ (∀ (l : List Rx) (a : Option Addr) (i : Nat), Rx.sizeL l ≤ m → Rx.InBL w B l a i → Rx.InBL w (fun k => B k ∧ k < w.heap.size) l a i) := by
    intro m
    induction m with
    | zero =>
      refine ⟨fun x p h => by have := x.size_pos; omega, fun l a i h _ => ?_⟩
      cases l with
      | nil => simp [Rx.InBL]
      | cons y r => simp only [Rx.sizeL] at h; have := y.size_pos; omega
    | succ m ih =>
      have hx : ∀ (x : Rx) (p : Addr), x.size ≤ m + 1 → Rx.InB w B x p → Rx.InB w (fun k => B k ∧ k < w.heap.size) x p := by
        rintro ⟨k, f, l⟩ p hm h
        simp only [Rx.InB] at h ⊢
        simp only [Rx.size] at hm
        obtain ⟨hk, a, cap, hc, hl⟩ := h
        exact ⟨hk, a, cap, hc, ih.2 l a 0 (by omega) hl⟩
      refine ⟨hx, fun l => ?_⟩
      induction l with
      | nil => intro a i _ _; simp [Rx.InBL]
      | cons y r ihr =>
        intro a i hm h
        simp only [Rx.InBL] at h ⊢
        simp only [Rx.sizeL] at hm
        obtain ⟨⟨p, e, hp0, hp⟩, hr⟩ := h
        have hlt : p.block < w.heap.size := by
          cases y
          simp only [Rx.InB] at hp
          obtain ⟨_, _, _, hc, _⟩ := hp
          have := World.block_lt_of_cell? w _ hc.c0
          rwa [Rx.add_block] at this
        exact ⟨⟨p, e, ⟨hp0, hlt⟩, hx y _ (by omega) hp⟩, ihr a (i + 1) (by omega) hr⟩
  cases x
  obtain ⟨hk, a, cap, e, hl⟩ := h
  exact ⟨hk, a, cap, e, (key _).2 _ _ _ (Nat.le_refl _) hl⟩
/-- a node's six cells -/
def Rx.six (k : Nat) (f : Nat → Bool) (a : Option Addr) (n cap : Nat) : List Value := [.int .u8 k, .int .u64 (Bs.word f 0), .int .u64 (Bs.word f 1), .int .u64 (Bs.word f 2), .int .u64 (Bs.word f 3), .slice a n cap]
/-- the cells of a row are these expressions -/
def Rx.Hs (w : World) (B : Nat → Prop) : List Rx → List Value → Prop
  | [], cs => cs = []
  | x :: r, cs => ∃ k f a n cap rest, cs = Rx.six k f a n cap ++ rest ∧ Rx.IsB w B x (Rx.hdr k f a n cap) ∧ Rx.Hs w B r rest
theorem Rx.Hs.turn {w w' : World} {B B' : Nat → Prop} (hb : ∀ (y : Addr) (u : Value), B y.block → w.cell? y = some u → w'.cell? y = some u) (hB : ∀ k, B k → B' k) : ∀ {xs : List Rx} {cs : List Value}, Rx.Hs w B xs cs → Rx.Hs w' B' xs cs
  | [], _, h => h
  | x :: r, _, h => by
    obtain ⟨k, f, a, n, cap, rest, e, hx, hr⟩ := h
    exact ⟨k, f, a, n, cap, rest, e, hx.turn hb hB, Rx.Hs.turn hb hB hr⟩
theorem Rx.Hs.snoc {w : World} {B : Nat → Prop} {y : Rx} {k : Nat} {f : Nat → Bool} {a : Option Addr} {n cap : Nat} (hy : Rx.IsB w B y (Rx.hdr k f a n cap)) : ∀ {xs : List Rx} {cs : List Value}, Rx.Hs w B xs cs → Rx.Hs w B (xs ++ [y]) (cs ++ Rx.six k f a n cap)
  | [], cs, h => by
    rw [Rx.Hs] at h; subst h
    exact ⟨k, f, a, n, cap, [], by simp, hy, rfl⟩
  | x :: r, cs, h => by
    obtain ⟨k', f', a', n', cap', rest, e, hx, hr⟩ := h
    subst e
    exact ⟨k', f', a', n', cap', rest ++ Rx.six k f a n cap, by simp, hx, Rx.Hs.snoc hy hr⟩
theorem Rx.Hs.inBL {w : World} {B : Nat → Prop} {g : Nat} (hp : B g) : ∀ {xs : List Rx} {cs : List Value} {i : Nat}, Rx.Hs w B xs cs → (∀ j u, cs[j]? = some u → w.cell? ⟨g, i * 6 + j, none⟩ = some u) → Rx.InBL w B xs (some ⟨g, 0, none⟩) i
  | [], _, _, _, _ => by simp [Rx.InBL]
  | x :: r, cs, i, h, hc => by
    obtain ⟨k, f, a, n, cap, rest, e, hx, hr⟩ := h
    subst e
    simp only [Rx.InBL]
    refine ⟨⟨_, rfl, hp, ?_⟩, Rx.Hs.inBL hp hr ?_⟩
    · obtain ⟨k', f', l'⟩ := x
      obtain ⟨hk, a', cap', e, hl⟩ := hx
      have q0 := hc 0 _ (by simp [Rx.six]; rfl)
      have q1 := hc 1 _ (by simp [Rx.six]; rfl)
      have q2 := hc 2 _ (by simp [Rx.six]; rfl)
      have q3 := hc 3 _ (by simp [Rx.six]; rfl)
      have q4 := hc 4 _ (by simp [Rx.six]; rfl)
      have q5 := hc 5 _ (by simp [Rx.six]; rfl)
      have e0 : (⟨g, 0, none⟩ : Addr).add (i * 6) = ⟨g, i * 6, none⟩ := by unfold Addr.add; split <;> simp_all
      simp only [Rx.hdr, Value.agg.injEq, Array.mk.injEq, List.cons.injEq, Value.int.injEq, Value.slice.injEq, true_and, and_true] at e
      obtain ⟨e1, e2, e3, e4, e5, e6, e7, e8⟩ := e
      rw [e1] at q0; rw [e2] at q1; rw [e3] at q2; rw [e4] at q3; rw [e5] at q4; rw [e6, e7, e8] at q5
      rw [e0]
      exact ⟨hk, a', cap', ⟨q0, q1, q2, q3, q4, q5⟩, hl⟩
    · intro j u hu
      have := hc (6 + j) u (by rw [List.getElem?_append_right (by simp [Rx.six])]; simpa [Rx.six] using hu)
      rw [show (i + 1) * 6 + j = i * 6 + (6 + j) by omega]
      exact this
theorem Rx.Hs.lt {w : World} {B : Nat → Prop} : ∀ {xs : List Rx} {cs : List Value}, Rx.Hs w B xs cs → Rx.Hs w (fun k => B k ∧ k < w.heap.size) xs cs
  | [], _, h => h
  | x :: r, _, h => by
    obtain ⟨k, f, a, n, cap, rest, e, hx, hr⟩ := h
    exact ⟨k, f, a, n, cap, rest, e, hx.lt, Rx.Hs.lt hr⟩
/-- a row of expressions of one's own: no expression lies in the row's own block -/
def Rx.Own (base : Nat) (v : Value) (xs : List Rx) (w : World) : Prop := (∃ cs, w.ownsRow base 54 6 v xs.length cs ∧ Rx.Hs w (fun k => base ≤ k ∧ some k ≠ v.ownBlock) xs cs) ∧ (xs = [] → v = .slice none 0 0)
theorem Rx.own_nil (base : Nat) (w : World) : Rx.Own base (.slice none 0 0) [] w := ⟨⟨[], World.ownsRow_nil _ _ _ _, rfl⟩, fun _ => rfl⟩
theorem Rx.Own.lt {base : Nat} {v : Value} {xs : List Rx} {w : World} (h : Rx.Own base v xs w) : ∀ k, v.ownBlock = some k → base ≤ k ∧ k < w.heap.size := by
  obtain ⟨⟨cs, h1, _⟩, _⟩ := h
  exact h1.lt
theorem Rx.Own.grown {base : Nat} {v : Value} {xs : List Rx} {w w' : World} {row : Option Nat} (h : Rx.Own base v xs w) (hg : w.grownBy w' row) (hr : ∀ k, row = some k → k < base) : Rx.Own base v xs w' := by
  obtain ⟨⟨cs, h1, h2⟩, h3⟩ := h
  have hne : v.ownBlock = none ∨ v.ownBlock ≠ row := by
    cases hv : v.ownBlock with
    | none => exact .inl rfl
    | some k => exact .inr (fun e => by have := hr k e.symm; have := h1.lt k hv; omega)
  exact ⟨⟨cs, h1.kept hg hne, h2.turn (fun y u hy hc => hg.cell hc (fun e => by have := hr _ e.symm; omega)) (fun _ h => h)⟩, h3⟩
theorem Rx.Own.up {base : Nat} {v : Value} {xs : List Rx} {w w' : World} (h : Rx.Own base v xs w) (hb : Below w.heap.size w w') : Rx.Own base v xs w' :=
  h.grown (row := none) ⟨hb.os, hb.tape, hb.output, hb.size, fun k hk _ => hb.block k hk⟩ (fun k hk => by simp at hk)
/-- the row as a slice -/
theorem Rx.Own.slice {base : Nat} {v : Value} {xs : List Rx} {w : World} (h : Rx.Own base v xs w) : ∃ a cap, v = .slice a xs.length cap ∧ Rx.InBL w (base ≤ ·) xs a 0 := by
  obtain ⟨⟨cs, h1, h2⟩, h3⟩ := h
  by_cases he : xs = []
  · subst he
    rw [h3 rfl]
    exact ⟨none, 0, rfl, by simp [Rx.InBL]⟩
  · have hl : 0 < xs.length := List.length_pos_iff.2 he
    obtain ⟨g, cap, rfl, hb, hlt⟩ := h1.form hl
    refine ⟨_, cap, rfl, ?_⟩
    refine Rx.Hs.inBL (B := (base ≤ ·)) hb (h2.turn (fun _ _ _ hc => hc) (fun k h => h.1)) ?_
    intro j u hu
    have := h1.cells (g := g) (by simp [Value.ownBlock]) j u hu
    have e0 : (⟨g, 0, none⟩ : Addr).add j = ⟨g, j, none⟩ := by unfold Addr.add; split <;> simp_all
    rw [e0] at this
    simpa using this
theorem Rx.Own.push {base : Nat} {v : Value} {xs : List Rx} {W w' : World} {cs : List Value} {y : Rx} {k : Nat} {f : Nat → Bool} {a : Option Addr} {n cap g c : Nat}
    (h2 : Rx.Hs W (fun k => base ≤ k ∧ some k ≠ v.ownBlock) xs cs)
    (hy : Rx.IsB W (fun k => base ≤ k ∧ some k ≠ v.ownBlock) y (Rx.hdr k f a n cap)) (ho : w'.ownsRow base 54 6 (.slice (some ⟨g, 0, none⟩) (xs.length + 1) c) (xs.length + 1) (cs ++ Rx.six k f a n cap)) (hg : W.grownBy w' v.ownBlock) (hat : v.ownBlock = some g ∨ g = W.heap.size) : Rx.Own base (.slice (some ⟨g, 0, none⟩) (xs.length + 1) c) (xs ++ [y]) w' := by
  refine ⟨⟨cs ++ Rx.six k f a n cap, by rw [List.length_append]; exact ho, ?_⟩, fun e => by simp at e⟩
  have := (Rx.Hs.snoc hy h2).lt
  refine this.turn (fun q u hq hc => hg.cell hc hq.1.2) (fun k hk => ⟨hk.1.1, ?_⟩)
  simp only [Value.ownBlock]
  rcases hat with e | e
  · rw [← e]; exact hk.1.2
  · intro e'
    injection e' with e'
    have := hk.2
    omega
theorem Rx.infoR : (Try.prog.info? 54).map (fun i => (i.zero, i.size, i.bytes)) = some (some (.agg #[.int .u8 0, .int .u64 0, .int .u64 0, .int .u64 0, .int .u64 0, .slice none 0 0]), 6, 64) := by kernel_rfl
/-- append of one expression to a row of one's own, at the walk -/
theorem Rx.append {ops : Array Oper} {rest : List Oper} {o : Oper} {a : Act} {Q : Exit → Act → World → Prop} {W : World} (hgd : o.guard = none) (s x : Operand)
    (ho : o.op = .call { callee := .builtin .append, args := #[s, x], argTypes := #[22, 22] })
    (base : Nat) (v : Value) (xs : List Rx) (hs : a.eval s = v) (O : Rx.Own base v xs W) (B c : Nat) (hx : a.eval x = .slice (some ⟨B, 0, none⟩) 1 c)
    (k : Nat) (f : Nat → Bool) (b : Option Addr) (n cap : Nat) (hB : W.heap[B]? = some (.cells #[.int .u8 k, .int .u64 (Bs.word f 0), .int .u64 (Bs.word f 1), .int .u64 (Bs.word f 2), .int .u64 (Bs.word f 3), .slice b n cap] 54))
    (y : Rx) (hy : Rx.IsB W (fun k => base ≤ k ∧ some k ≠ v.ownBlock) y (Rx.hdr k f b n cap)) (hl : xs.length ≤ 100000) (hbase : base ≤ W.heap.size)
    (h : ∀ v' w', Rx.Own base v' (xs ++ [y]) w' → W.grownBy w' v.ownBlock → wpList Try.prog ops Q rest (a.put o.dst v') w') : wpList Try.prog ops Q (o :: rest) a W := by
  obtain ⟨iE, hiE⟩ : ∃ i, Try.prog.info? 54 = some i := by
    have := Rx.infoR
    cases h : Try.prog.info? 54 with
    | none => rw [h] at this; simp at this
    | some i => exact ⟨i, rfl⟩
  have hz := Rx.infoR
  rw [hiE] at hz
  simp at hz
  obtain ⟨hz0, hz1, hz2⟩ := hz
  obtain ⟨⟨cs, O1, O2⟩, O3⟩ := O
  refine wpList_append_lies W hgd s x 22 ho base 54 iE _ 6 64 Try.underlying22 hiE hz0 hz1 hz2 rfl (by decide) v xs.length cs hs O1 ⟨B, 0, none⟩ 1 c (Rx.six k f b n cap) hx rfl (World.news_of_block hB) (by simp [Rx.six, Value.oneCell']) (by decide) (by unfold maxLen; omega) (by omega) hbase _ rfl ?_
  intro g c' w' o1 o2 o3 o4
  exact h _ _ (Rx.Own.push O2 hy o1 o2 o3) o2
/-- a row of one -/
theorem Rx.own_one {base : Nat} {w : World} {y : Rx} {k : Nat} {f : Nat → Bool} {b : Option Addr} {n cap : Nat} (hy : Rx.IsB w (base ≤ ·) y (Rx.hdr k f b n cap)) (hb : base ≤ w.heap.size) : Rx.Own base (.slice (some ⟨w.heap.size, 0, none⟩) 1 1) [y] (w.alloc (.cells #[.int .u8 k, .int .u64 (Bs.word f 0), .int .u64 (Bs.word f 1), .int .u64 (Bs.word f 2), .int .u64 (Bs.word f 3), .slice b n cap] 54)) := by
  refine ⟨⟨Rx.six k f b n cap, ⟨rfl, .inr ⟨w.heap.size, 1, _, rfl, hb, heap_alloc_new w _, by simp, by unfold maxLen; omega, rfl, rfl⟩⟩, ?_⟩, fun e => by simp at e⟩
  refine ⟨k, f, b, n, cap, [], by simp, ?_, rfl⟩
  refine hy.lt.turn (fun q u _ hc => Bs.cell_up (Bs.below1 w _) hc) (fun k hk => ⟨hk.1, ?_⟩)
  simp only [Value.ownBlock]
  intro e
  injection e with e
  have := hk.2
  omega
open Go.RowKit
/-- behind a call that hands back an expression in blocks of a kind -/
def Px.XPost (w : World) (B : Nat → Prop) (x : Rx) (e : Ending) (w' : World) : Prop := ∃ v, e = .returned v ∧ Rx.IsB w' B x v ∧ Below w.heap.size w w'
theorem Rx.isB_one (w : World) (B : Nat → Prop) (f : Nat → Bool) : Rx.IsB w B (Rx.one f) (Rx.hdr 1 f none 0 0) := ⟨by omega, none, 0, rfl, trivial⟩
theorem Rx.isB_nil (w : World) (B : Nat → Prop) : Rx.IsB w B Rx.nil (Rx.hdr 0 (fun _ => false) none 0 0) := ⟨by omega, none, 0, rfl, trivial⟩
set_option maxRecDepth 100000 in
set_option maxHeartbeats 400000 in
theorem pone_any (f : Nat → Bool) (B : Nat → Prop) (w : World) : Calls Try.prog 123 #[Bs.val f] w (Px.XPost w B (Rx.one f)) := by
  unfold Bs.val
  go_enter Try.func123, Try.ntmps123
  go_wp2_with fail
  exact bodyPost_ret (v := Rx.hdr 1 f none 0 0) (by simp [results, Try.results123, go_sem, Rx.hdr]) rfl ⟨_, rfl, Rx.isB_one _ B f, Bs.below2 _ _ _⟩
/-- a node's own variable -/
structure Rx.Nod (w : World) (b : Nat) (k : Nat) (f : Nat → Bool) (a : Option Addr) (n cap : Nat) : Prop where
  cell : Rx.Cell w ⟨b, 0, none⟩ k f a n cap
  frz : ∀ i, i < 6 → w.frozen? ⟨b, i, none⟩ = false
theorem Rx.Nod.lt {w : World} {b k : Nat} {f : Nat → Bool} {a : Option Addr} {n cap : Nat} (h : Rx.Nod w b k f a n cap) : b < w.heap.size := World.block_lt_of_cell? w _ h.cell.c0
theorem Rx.Nod.up {w w' : World} {b k : Nat} {f : Nat → Bool} {a : Option Addr} {n cap : Nat} (h : Rx.Nod w b k f a n cap) (hb : Below w.heap.size w w') : Rx.Nod w' b k f a n cap :=
  ⟨h.cell.up hb, fun i hi => by rw [hb.frozen h.lt]; exact h.frz i hi⟩
theorem Rx.Nod.grown {w w' : World} {r b k : Nat} {f : Nat → Bool} {a : Option Addr} {n cap : Nat} (h : Rx.Nod w b k f a n cap) (hg : w.grownBy w' (some r)) (hn : b ≠ r) : Rx.Nod w' b k f a n cap :=
  ⟨h.cell.grown hg hn, fun i hi => by rw [hg.frozen_far ⟨b, i, none⟩ h.lt (by simpa using hn)]; exact h.frz i hi⟩
theorem Rx.nod_new (w : World) (k : Nat) (f : Nat → Bool) (a : Option Addr) (n cap : Nat) : Rx.Nod (w.alloc (.cells #[.int .u8 k, .int .u64 (Bs.word f 0), .int .u64 (Bs.word f 1), .int .u64 (Bs.word f 2), .int .u64 (Bs.word f 3), .slice a n cap] 54)) w.heap.size k f a n cap :=
  ⟨Rx.cell_new w k f a n cap _, fun i hi => by simp [go_sem]⟩
theorem Rx.nod_zero (w : World) : Rx.Nod (w.alloc (.cells #[.int .u8 0, .int .u64 0, .int .u64 0, .int .u64 0, .int .u64 0, .slice none 0 0] 54)) w.heap.size 0 (fun _ => false) none 0 0 := by
  have := Rx.nod_new w 0 (fun _ => false) none 0 0
  simpa [Bs.word_none] using this
/-- a node is written -/
def Rx.wr (w : World) (b : Nat) (k : Nat) (f : Nat → Bool) (a : Option Addr) (n cap : Nat) : World := (((((w.setCell ⟨b, 0, none⟩ (.int .u8 k)).setCell ⟨b, 1, none⟩ (.int .u64 (Bs.word f 0))).setCell ⟨b, 2, none⟩ (.int .u64 (Bs.word f 1))).setCell ⟨b, 3, none⟩ (.int .u64 (Bs.word f 2))).setCell ⟨b, 4, none⟩ (.int .u64 (Bs.word f 3))).setCell ⟨b, 5, none⟩ (.slice a n cap)
theorem Rx.Nod.wr {w : World} {b k' : Nat} {f' : Nat → Bool} {a' : Option Addr} {n' cap' : Nat} (h : Rx.Nod w b k' f' a' n' cap') (k : Nat) (f : Nat → Bool) (a : Option Addr) (n cap : Nat) : Rx.Nod (Rx.wr w b k f a n cap) b k f a n cap := by
  obtain ⟨⟨c0, c1, c2, c3, c4, c5⟩, z⟩ := h
  simp only [Nat.zero_add] at c0 c1 c2 c3 c4 c5
  unfold Rx.wr
  refine ⟨⟨?_, ?_, ?_, ?_, ?_, ?_⟩, fun i hi => ?_⟩
  · simp [go_sem, c0, c1, c2, c3, c4, c5]
  · simp [go_sem, c0, c1, c2, c3, c4, c5]
  · simp [go_sem, c0, c1, c2, c3, c4, c5]
  · simp [go_sem, c0, c1, c2, c3, c4, c5]
  · simp [go_sem, c0, c1, c2, c3, c4, c5]
  · simp [go_sem, c0, c1, c2, c3, c4, c5]
  · simpa using z i hi
theorem Rx.wr_below {n0 : Nat} {w v : World} (h : Below n0 w v) {b : Nat} (hb : n0 ≤ b) (k : Nat) (f : Nat → Bool) (a : Option Addr) (n cap : Nat) : Below n0 w (Rx.wr v b k f a n cap) :=
  (((((h.setCell (p := ⟨b, 0, none⟩) hb _).setCell (p := ⟨b, 1, none⟩) hb _).setCell (p := ⟨b, 2, none⟩) hb _).setCell (p := ⟨b, 3, none⟩) hb _).setCell (p := ⟨b, 4, none⟩) hb _).setCell (p := ⟨b, 5, none⟩) hb _
theorem Rx.wr_far {w v : World} {row : Option Nat} (h : w.grownBy v row) {b : Nat} (hb : w.heap.size ≤ b) (k : Nat) (f : Nat → Bool) (a : Option Addr) (n cap : Nat) : w.grownBy (Rx.wr v b k f a n cap) row :=
  Rx.grown_far (Rx.grown_far (Rx.grown_far (Rx.grown_far (Rx.grown_far (Rx.grown_far h hb _ _) hb _ _) hb _ _) hb _ _) hb _ _) hb _ _
/-- what is far stays while a node is written -/
theorem Rx.wr_cell {w : World} {b k : Nat} {f : Nat → Bool} {a : Option Addr} {n cap : Nat} {p : Addr} {u : Value} (h : w.cell? p = some u) (hn : b ≠ p.block) : (Rx.wr w b k f a n cap).cell? p = some u :=
  Bs.cell_set (Bs.cell_set (Bs.cell_set (Bs.cell_set (Bs.cell_set (Bs.cell_set h hn) hn) hn) hn) hn) hn
theorem Rx.IsB.wr {w : World} {B : Nat → Prop} {x : Rx} {v : Value} (h : Rx.IsB w B x v) {b : Nat} (hn : ¬ B b) (k : Nat) (f : Nat → Bool) (a : Option Addr) (n cap : Nat) : Rx.IsB (Rx.wr w b k f a n cap) B x v :=
  h.turn (fun y u hy hc => Rx.wr_cell hc (fun e => hn (by rw [e]; exact hy))) (fun _ h => h)
theorem Rx.wr_size (w : World) (b k : Nat) (f : Nat → Bool) (a : Option Addr) (n cap : Nat) : (Rx.wr w b k f a n cap).heap.size = w.heap.size := by simp [Rx.wr, go_sem]
set_option maxRecDepth 100000 in
set_option maxHeartbeats 400000 in
theorem pspan_any (lo hi : Nat) (B : Nat → Prop) (w : World) : Calls Try.prog 126 #[.int .u8 lo, .int .u8 hi] w (Px.XPost w B (Rx.one (Rx.rng lo hi))) := by
  have N := Rx.nod_zero w
  have A := Bs.below1 w (.cells #[.int .u8 0, .int .u64 0, .int .u64 0, .int .u64 0, .int .u64 0, .slice none 0 0] 54)
  go_enter Try.func126, Try.ntmps126
  go_wp2_with fail
  generalize w.alloc (.cells #[.int .u8 0, .int .u64 0, .int .u64 0, .int .u64 0, .int .u64 0, .slice none 0 0] 54) = W at *
  refine (rangeB_any lo hi W).mono ?_
  rintro e w1 ⟨rfl, hb⟩
  replace N := N.up hb
  replace A := Bs.below_up A hb
  clear hb
  go_wp2_with fail
  refine (pone_any (Bs.rng lo hi) B w1).mono ?_
  rintro e w2 ⟨v, rfl, hx, hb⟩
  replace N := N.up hb
  replace A := Bs.below_up A hb
  clear hb
  rw [Px.rng_eq] at hx
  obtain ⟨hk, a, cap, rfl, hl⟩ := hx
  have HX := Lib.hid (show Rx.IsB w2 B (Rx.one (Rx.rng lo hi)) (Rx.hdr 1 (Rx.rng lo hi) a 0 cap) from ⟨hk, a, cap, rfl, hl⟩)
  have HN := Lib.hid N
  obtain ⟨⟨c0, c1, c2, c3, c4, c5⟩, z⟩ := N
  simp only [Nat.zero_add] at c0 c1 c2 c3 c4 c5
  have z0 := z 0 (by decide); have z1 := z 1 (by decide); have z2 := z 2 (by decide); have z3 := z 3 (by decide); have z4 := z 4 (by decide); have z5 := z 5 (by decide)
  clear z hl
  unfold Rx.hdr
  go_wp2_with fail
  have C := (HN.out.wr 1 (Rx.rng lo hi) a 0 cap).cell
  refine bodyPost_ret (v := Rx.hdr 1 (Rx.rng lo hi) a 0 cap) (by simp [results, Try.results126, go_sem, c0, c1, c2, c3, c4, c5, Rx.hdr]) rfl ⟨_, rfl, ⟨hk, a, cap, rfl, trivial⟩, ?_⟩
  exact Rx.wr_below A (Nat.le_refl _) 1 (Rx.rng lo hi) a 0 cap
end Go.Proofs.Ytndenipjiclkaaa
