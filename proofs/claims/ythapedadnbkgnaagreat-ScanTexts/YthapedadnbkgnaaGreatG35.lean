/- Parts of expressions in memory, each in cells of its own; rows of parts that grow by append. What the program's partOf answers, walked. What the program's parts do when a byte is read: plain facts on memory, and readCat, readAlt, read walked. -/
import Derived.Test.YthapedadnbkgnaaGreatG15
import Derived.Test.YthapedadnbkgnaaGreatG21
import Derived.Test.YthapedadnbkgnaaGreatG4
namespace Go.Proofs.YthapedadnbkgnaaGreat
set_option linter.unusedVariables false
set_option linter.unusedSimpArgs false
open Go.RowKit
structure Pm.Cell (w : World) (b o : Nat) (k : Nat) (f : Nat → Bool) (sl : Value) (e d : Bool) : Prop where
  c0 : w.cell? ⟨b, o, none⟩ = some (.int .u8 k)
  c1 : w.cell? ⟨b, o + 1, none⟩ = some (.int .u64 (Bs.word f 0))
  c2 : w.cell? ⟨b, o + 2, none⟩ = some (.int .u64 (Bs.word f 1))
  c3 : w.cell? ⟨b, o + 3, none⟩ = some (.int .u64 (Bs.word f 2))
  c4 : w.cell? ⟨b, o + 4, none⟩ = some (.int .u64 (Bs.word f 3))
  c5 : w.cell? ⟨b, o + 5, none⟩ = some sl
  c6 : w.cell? ⟨b, o + 6, none⟩ = some (.bool e)
  c7 : w.cell? ⟨b, o + 7, none⟩ = some (.bool d)
mutual
def Pm.In (w : World) : Ps → Nat → Nat → List Nat → Prop
  | .node k f l e d, b, o, F => ∃ sl, Pm.Cell w b o k f sl e d ∧ ((l = [] ∧ sl = .slice none 0 0 ∧ F = []) ∨ (∃ g cap G, l ≠ [] ∧ sl = .slice (some ⟨g, 0, none⟩) l.length cap ∧ F = g :: G ∧ Pm.InL w l g 0 G))
def Pm.InL (w : World) : List Ps → Nat → Nat → List Nat → Prop
  | [], _, _, F => F = []
  | y :: r, g, i, F => ∃ F1 F2, F = F1 ++ F2 ∧ Pm.In w y g (i * 8) F1 ∧ Pm.InL w r g (i + 1) F2
end
def Pm.hdr (k : Nat) (f : Nat → Bool) (sl : Value) (e d : Bool) : Value := .agg #[.int .u8 k, .int .u64 (Bs.word f 0), .int .u64 (Bs.word f 1), .int .u64 (Bs.word f 2), .int .u64 (Bs.word f 3), sl, .bool e, .bool d]
def Pm.Is (w : World) : Ps → Value → List Nat → Prop
  | .node k f l e d, v, F => ∃ sl, v = Pm.hdr k f sl e d ∧ ((l = [] ∧ sl = .slice none 0 0 ∧ F = []) ∨ (∃ g cap G, l ≠ [] ∧ sl = .slice (some ⟨g, 0, none⟩) l.length cap ∧ F = g :: G ∧ Pm.InL w l g 0 G))
theorem Pm.Cell.turn {w w' : World} {b o k : Nat} {f : Nat → Bool} {sl : Value} {e d : Bool} (h : Pm.Cell w b o k f sl e d) (ht : ∀ j v, j < 8 → w.cell? ⟨b, o + j, none⟩ = some v → w'.cell? ⟨b, o + j, none⟩ = some v) : Pm.Cell w' b o k f sl e d :=
  ⟨ht 0 _ (by decide) h.c0, ht 1 _ (by decide) h.c1, ht 2 _ (by decide) h.c2, ht 3 _ (by decide) h.c3, ht 4 _ (by decide) h.c4, ht 5 _ (by decide) h.c5, ht 6 _ (by decide) h.c6, ht 7 _ (by decide) h.c7⟩
mutual
theorem Pm.In.turn {w w' : World} : ∀ {x : Ps} {b o : Nat} {F : List Nat}, Pm.In w x b o F → (∀ j v, j < 8 → w.cell? ⟨b, o + j, none⟩ = some v → w'.cell? ⟨b, o + j, none⟩ = some v) → (∀ g ∈ F, ∀ j v, w.cell? ⟨g, j, none⟩ = some v → w'.cell? ⟨g, j, none⟩ = some v) → Pm.In w' x b o F
  | .node k f l e d, b, o, F, h, h1, h2 => by
    simp only [Pm.In] at h ⊢
    obtain ⟨sl, hc, hk⟩ := h
    refine ⟨sl, hc.turn h1, ?_⟩
    rcases hk with hk | ⟨g, cap, G, h3, h4, h5, h6⟩
    · exact .inl hk
    · subst h5
      exact .inr ⟨g, cap, G, h3, h4, rfl, Pm.InL.turn h6 (fun j v hc => h2 g (by simp) j v hc) (fun g' hg' => h2 g' (by simp [hg']))⟩
theorem Pm.InL.turn {w w' : World} : ∀ {l : List Ps} {g i : Nat} {F : List Nat}, Pm.InL w l g i F → (∀ j v, w.cell? ⟨g, j, none⟩ = some v → w'.cell? ⟨g, j, none⟩ = some v) → (∀ g' ∈ F, ∀ j v, w.cell? ⟨g', j, none⟩ = some v → w'.cell? ⟨g', j, none⟩ = some v) → Pm.InL w' l g i F
  | [], _, _, _, h, _, _ => by simpa [Pm.InL] using h
  | y :: r, g, i, F, h, h1, h2 => by
    simp only [Pm.InL] at h ⊢
    obtain ⟨F1, F2, e, hy, hr⟩ := h
    subst e
    exact ⟨F1, F2, rfl, Pm.In.turn hy (fun j v _ hc => h1 _ v hc) (fun g' hg' => h2 g' (by simp [hg'])), Pm.InL.turn hr h1 (fun g' hg' => h2 g' (by simp [hg']))⟩
end
theorem Pm.Is.turn {w w' : World} {x : Ps} {v : Value} {F : List Nat} (h : Pm.Is w x v F) (h2 : ∀ g ∈ F, ∀ j v, w.cell? ⟨g, j, none⟩ = some v → w'.cell? ⟨g, j, none⟩ = some v) : Pm.Is w' x v F := by
  cases x
  obtain ⟨sl, hc, hk⟩ := h
  refine ⟨sl, hc, ?_⟩
  rcases hk with hk | ⟨g, cap, G, h3, h4, h5, h6⟩
  · exact .inl hk
  · subst h5
    exact .inr ⟨g, cap, G, h3, h4, rfl, h6.turn (fun j v hc => h2 g (by simp) j v hc) (fun g' hg' => h2 g' (by simp [hg']))⟩
theorem Pm.Is.up {w w' : World} {x : Ps} {v : Value} {F : List Nat} (h : Pm.Is w x v F) (hb : Below w.heap.size w w') : Pm.Is w' x v F := h.turn fun _ _ _ _ hc => Bs.cell_up hb hc
theorem Pm.Is.grown {w w' : World} {x : Ps} {v : Value} {F : List Nat} {row : Option Nat} (h : Pm.Is w x v F) (hg : w.grownBy w' row) (hn : ∀ g ∈ F, some g ≠ row) : Pm.Is w' x v F := h.turn fun g hgF j v hc => hg.cell hc (hn g hgF)
theorem Pm.Is.form {w : World} {x : Ps} {v : Value} {F : List Nat} (h : Pm.Is w x v F) : ∃ k f sl e d, v = Pm.hdr k f sl e d ∧ (∃ n, sl = .slice none 0 0 ∧ n = 0 ∨ ∃ g cap, sl = .slice (some ⟨g, 0, none⟩) n cap) := by
  cases x
  obtain ⟨sl, hc, hk⟩ := h
  refine ⟨_, _, sl, _, _, hc, ?_⟩
  rcases hk with ⟨_, h, _⟩ | ⟨g, cap, G, _, h, _⟩
  · exact ⟨0, .inl ⟨h, rfl⟩⟩
  · exact ⟨_, .inr ⟨g, cap, h⟩⟩
mutual
theorem Pm.In.lt {w : World} : ∀ {x : Ps} {b o : Nat} {F : List Nat}, Pm.In w x b o F → ∀ g ∈ F, g < w.heap.size
  | .node k f l e d, b, o, F, h => by
    simp only [Pm.In] at h
    obtain ⟨sl, hc, hk⟩ := h
    rcases hk with ⟨_, _, hk⟩ | ⟨g, cap, G, h3, h4, h5, h6⟩
    · subst hk; simp
    · subst h5
      intro g' hg'
      rcases List.mem_cons.1 hg' with e | hg'
      · rw [e]; exact Pm.InL.lt0 h6 h3
      · exact Pm.InL.lt h6 g' hg'
theorem Pm.InL.lt {w : World} : ∀ {l : List Ps} {g i : Nat} {F : List Nat}, Pm.InL w l g i F → ∀ g' ∈ F, g' < w.heap.size
  | [], _, _, F, h => by simp only [Pm.InL] at h; subst h; simp
  | y :: r, g, i, F, h => by
    simp only [Pm.InL] at h
    obtain ⟨F1, F2, e, hy, hr⟩ := h
    subst e
    intro g' hg'
    rcases List.mem_append.1 hg' with hg' | hg'
    · exact Pm.In.lt hy g' hg'
    · exact Pm.InL.lt hr g' hg'
theorem Pm.InL.lt0 {w : World} : ∀ {l : List Ps} {g i : Nat} {F : List Nat}, Pm.InL w l g i F → l ≠ [] → g < w.heap.size
  | [], _, _, _, _, h => by simp at h
  | .node k f l e d :: r, g, i, F, h, _ => by
    simp only [Pm.InL, Pm.In] at h
    obtain ⟨F1, F2, e, ⟨sl, hc, _⟩, hr⟩ := h
    exact World.block_lt_of_cell? w _ hc.c0
end
theorem Pm.Is.lt {w : World} {x : Ps} {v : Value} {F : List Nat} (h : Pm.Is w x v F) : ∀ g ∈ F, g < w.heap.size := by
  cases x
  obtain ⟨sl, hc, hk⟩ := h
  rcases hk with ⟨_, _, hk⟩ | ⟨g, cap, G, h3, h4, h5, h6⟩
  · subst hk; simp
  · subst h5
    intro g' hg'
    rcases List.mem_cons.1 hg' with e | hg'
    · rw [e]; exact h6.lt0 h3
    · exact h6.lt g' hg'
def Pm.eight (k : Nat) (f : Nat → Bool) (sl : Value) (e d : Bool) : List Value := [.int .u8 k, .int .u64 (Bs.word f 0), .int .u64 (Bs.word f 1), .int .u64 (Bs.word f 2), .int .u64 (Bs.word f 3), sl, .bool e, .bool d]
def Pm.Hs (w : World) : List Ps → List Value → List Nat → Prop
  | [], cs, F => cs = [] ∧ F = []
  | x :: r, cs, F => ∃ k f sl e d rest F1 F2, cs = Pm.eight k f sl e d ++ rest ∧ F = F1 ++ F2 ∧ Pm.Is w x (Pm.hdr k f sl e d) F1 ∧ Pm.Hs w r rest F2
theorem Pm.Hs.turn {w w' : World} : ∀ {xs : List Ps} {cs : List Value} {F : List Nat}, Pm.Hs w xs cs F → (∀ g ∈ F, ∀ j v, w.cell? ⟨g, j, none⟩ = some v → w'.cell? ⟨g, j, none⟩ = some v) → Pm.Hs w' xs cs F
  | [], _, _, h, _ => h
  | x :: r, _, _, h, h2 => by
    obtain ⟨k, f, sl, e, d, rest, F1, F2, e1, e2, hx, hr⟩ := h
    subst e2
    exact ⟨k, f, sl, e, d, rest, F1, F2, e1, rfl, hx.turn (fun g hg => h2 g (by simp [hg])), Pm.Hs.turn hr (fun g hg => h2 g (by simp [hg]))⟩
theorem Pm.Hs.snoc {w : World} {y : Ps} {k : Nat} {f : Nat → Bool} {sl : Value} {e d : Bool} {G : List Nat} (hy : Pm.Is w y (Pm.hdr k f sl e d) G) : ∀ {xs : List Ps} {cs : List Value} {F : List Nat}, Pm.Hs w xs cs F → Pm.Hs w (xs ++ [y]) (cs ++ Pm.eight k f sl e d) (F ++ G)
  | [], cs, F, h => by
    obtain ⟨h1, h2⟩ := h
    subst h1; subst h2
    exact ⟨k, f, sl, e, d, [], G, [], by simp, by simp, hy, rfl, rfl⟩
  | x :: r, cs, F, h => by
    obtain ⟨k', f', sl', e', d', rest, F1, F2, e1, e2, hx, hr⟩ := h
    subst e1; subst e2
    exact ⟨k', f', sl', e', d', rest ++ Pm.eight k f sl e d, F1, F2 ++ G, by simp, by simp, hx, Pm.Hs.snoc hy hr⟩
theorem Pm.Hs.lt {w : World} : ∀ {xs : List Ps} {cs : List Value} {F : List Nat}, Pm.Hs w xs cs F → ∀ g ∈ F, g < w.heap.size
  | [], _, _, h => by obtain ⟨_, h⟩ := h; subst h; simp
  | x :: r, _, _, h => by
    obtain ⟨k, f, sl, e, d, rest, F1, F2, e1, e2, hx, hr⟩ := h
    subst e2
    intro g hg
    rcases List.mem_append.1 hg with hg | hg
    · exact hx.lt g hg
    · exact Pm.Hs.lt hr g hg
theorem Pm.Hs.inL {w : World} {g : Nat} : ∀ {xs : List Ps} {cs : List Value} {F : List Nat} {i : Nat}, Pm.Hs w xs cs F → (∀ j u, cs[j]? = some u → w.cell? ⟨g, i * 8 + j, none⟩ = some u) → Pm.InL w xs g i F
  | [], _, _, _, h, _ => by simp only [Pm.InL]; exact h.2
  | .node k' f' l' e' d' :: r, cs, F, i, h, hc => by
    obtain ⟨k, f, sl, e, d, rest, F1, F2, e1, e2, hx, hr⟩ := h
    subst e1; subst e2
    simp only [Pm.InL]
    refine ⟨F1, F2, rfl, ?_, Pm.Hs.inL hr ?_⟩
    · obtain ⟨sl', he, hk⟩ := hx
      simp only [Pm.hdr, Value.agg.injEq, Array.mk.injEq, List.cons.injEq, Value.int.injEq, Value.bool.injEq, true_and, and_true] at he
      obtain ⟨a1, a2, a3, a4, a5, a6, a7, a8⟩ := he
      have q0 := hc 0 _ (by simp [Pm.eight]; rfl)
      have q1 := hc 1 _ (by simp [Pm.eight]; rfl)
      have q2 := hc 2 _ (by simp [Pm.eight]; rfl)
      have q3 := hc 3 _ (by simp [Pm.eight]; rfl)
      have q4 := hc 4 _ (by simp [Pm.eight]; rfl)
      have q5 := hc 5 _ (by simp [Pm.eight]; rfl)
      have q6 := hc 6 _ (by simp [Pm.eight]; rfl)
      have q7 := hc 7 _ (by simp [Pm.eight]; rfl)
      rw [a1] at q0; rw [a2] at q1; rw [a3] at q2; rw [a4] at q3; rw [a5] at q4; rw [a6] at q5; rw [a7] at q6; rw [a8] at q7
      exact ⟨sl', ⟨q0, q1, q2, q3, q4, q5, q6, q7⟩, hk⟩
    · intro j u hu
      have := hc (8 + j) u (by rw [List.getElem?_append_right (by simp [Pm.eight])]; simpa [Pm.eight] using hu)
      rw [show (i + 1) * 8 + j = i * 8 + (8 + j) by omega]
      exact this
def Pm.Fz (w : World) (F : List Nat) : Prop := ∀ g ∈ F, ∀ j, w.frozen? ⟨g, j, none⟩ = false
theorem Pm.Fz.grown {w w' : World} {F : List Nat} {row : Option Nat} (h : Pm.Fz w F) (hg : w.grownBy w' row) (hl : ∀ g ∈ F, g < w.heap.size) (hn : ∀ g ∈ F, some g ≠ row) : Pm.Fz w' F := fun g hm j => by
  rw [hg.frozen_far ⟨g, j, none⟩ (hl g hm) (hn g hm)]; exact h g hm j
theorem Pm.Fz.up {w w' : World} {F : List Nat} (h : Pm.Fz w F) (hb : Below w.heap.size w w') (hl : ∀ g ∈ F, g < w.heap.size) : Pm.Fz w' F := fun g hm j => by
  rw [hb.frozen (p := ⟨g, j, none⟩) (hl g hm)]; exact h g hm j
structure Pm.Own (base : Nat) (v : Value) (xs : List Ps) (w : World) (F : List Nat) : Prop where
  row : ∃ cs, w.ownsRow base 120 8 v xs.length cs ∧ Pm.Hs w xs cs F
  nil : xs = [] → v = .slice none 0 0
  nod : F.Nodup
  off : ∀ g ∈ F, base ≤ g ∧ some g ≠ v.ownBlock
  fz : Pm.Fz w F
theorem Pm.own_nil (base : Nat) (w : World) : Pm.Own base (.slice none 0 0) [] w [] := ⟨⟨[], World.ownsRow_nil _ _ _ _, rfl, rfl⟩, fun _ => rfl, by simp, by simp, fun g hg => by simp at hg⟩
theorem Pm.Own.lt {base : Nat} {v : Value} {xs : List Ps} {w : World} {F : List Nat} (h : Pm.Own base v xs w F) : ∀ k, v.ownBlock = some k → base ≤ k ∧ k < w.heap.size := by
  obtain ⟨⟨cs, h1, _⟩, _, _, _, _⟩ := h
  exact h1.lt
theorem Pm.Own.up {base : Nat} {v : Value} {xs : List Ps} {w w' : World} {F : List Nat} (h : Pm.Own base v xs w F) (hb : Below w.heap.size w w') : Pm.Own base v xs w' F := by
  obtain ⟨⟨cs, h1, h2⟩, h3, h4, h5, h6⟩ := h
  exact ⟨⟨cs, h1.kept (row := none) ⟨hb.os, hb.tape, hb.output, hb.size, fun k hk _ => hb.block k hk⟩ (by cases hv : v.ownBlock <;> simp), h2.turn fun _ _ _ _ hc => Bs.cell_up hb hc⟩, h3, h4, h5, h6.up hb h2.lt⟩
theorem Pm.Own.far {base : Nat} {v : Value} {xs : List Ps} {w w' : World} {F : List Nat} {r : Nat} (h : Pm.Own base v xs w F) (hg : w.grownBy w' (some r)) (hr : r < base) : Pm.Own base v xs w' F := by
  obtain ⟨⟨cs, h1, h2⟩, h3, h4, h5, h6⟩ := h
  have hne : v.ownBlock = none ∨ v.ownBlock ≠ some r := by
    cases hv : v.ownBlock with
    | none => exact .inl rfl
    | some k => exact .inr (fun e => by injection e with e; have := h1.lt k hv; omega)
  exact ⟨⟨cs, h1.kept hg hne, h2.turn fun g hgF j v hc => hg.cell hc (by simp; have := (h5 g hgF).1; omega)⟩, h3, h4, h5, h6.grown hg h2.lt (fun g hgF => by simp; have := (h5 g hgF).1; omega)⟩
theorem Pm.Own.push {base : Nat} {v : Value} {xs : List Ps} {W w' : World} {cs : List Value} {F G : List Nat} {y : Ps} {k : Nat} {f : Nat → Bool} {sl : Value} {e d : Bool} {g c : Nat}
    (h2 : Pm.Hs W xs cs F) (hF : F.Nodup) (hoff : ∀ g ∈ F, base ≤ g ∧ some g ≠ v.ownBlock)
    (hy : Pm.Is W y (Pm.hdr k f sl e d) G) (hG : G.Nodup) (hoff2 : ∀ g ∈ G, base ≤ g ∧ some g ≠ v.ownBlock) (hFG : ∀ a ∈ F, ∀ b ∈ G, a ≠ b) (hzF : Pm.Fz W F) (hzG : Pm.Fz W G)
    (ho : w'.ownsRow base 120 8 (.slice (some ⟨g, 0, none⟩) (xs.length + 1) c) (xs.length + 1) (cs ++ Pm.eight k f sl e d)) (hg : W.grownBy w' v.ownBlock) (hat : v.ownBlock = some g ∨ g = W.heap.size) : Pm.Own base (.slice (some ⟨g, 0, none⟩) (xs.length + 1) c) (xs ++ [y]) w' (F ++ G) := by
  have hall : ∀ a ∈ F ++ G, base ≤ a ∧ some a ≠ v.ownBlock := by
    intro a ha
    rcases List.mem_append.1 ha with ha | ha
    · exact hoff a ha
    · exact hoff2 a ha
  have hs := Pm.Hs.snoc hy h2
  refine ⟨⟨cs ++ Pm.eight k f sl e d, by rw [List.length_append]; exact ho, hs.turn fun a ha j v hc => hg.cell hc (hall a ha).2⟩, fun e => by simp at e, ?_, fun a ha => ⟨(hall a ha).1, ?_⟩, Pm.Fz.grown (F := F ++ G) (fun a ha j => by rcases List.mem_append.1 ha with ha | ha; exact hzF a ha j; exact hzG a ha j) hg hs.lt (fun a ha => (hall a ha).2)⟩
  · rw [List.nodup_append]; exact ⟨hF, hG, hFG⟩
  · simp only [Value.ownBlock]
    rcases hat with e | e
    · rw [← e]; exact (hall a ha).2
    · intro e'
      injection e' with e'
      have := hs.lt a ha
      omega
theorem Pm.Own.slice {base : Nat} {v : Value} {xs : List Ps} {w : World} {F : List Nat} (h : Pm.Own base v xs w F) : ∃ G, G.Nodup ∧ (∀ g ∈ G, base ≤ g) ∧ Pm.Fz w G ∧ ((xs = [] ∧ v = .slice none 0 0 ∧ G = []) ∨ (∃ g cap F', xs ≠ [] ∧ v = .slice (some ⟨g, 0, none⟩) xs.length cap ∧ G = g :: F' ∧ Pm.InL w xs g 0 F')) := by
  obtain ⟨⟨cs, h1, h2⟩, h3, h4, h5, h6⟩ := h
  by_cases he : xs = []
  · exact ⟨[], by simp, by simp, fun g hg => by simp at hg, .inl ⟨he, h3 he, rfl⟩⟩
  · have hl : 0 < xs.length := List.length_pos_iff.2 he
    obtain ⟨g, cap, rfl, hb, hlt⟩ := h1.form hl
    refine ⟨g :: F, ?_, ?_, ?_, .inr ⟨g, cap, F, he, rfl, rfl, ?_⟩⟩
    · rw [List.nodup_cons]; exact ⟨fun hm => (h5 g hm).2 (by simp [Value.ownBlock]), h4⟩
    · intro a ha
      rcases List.mem_cons.1 ha with e | ha
      · rw [e]; exact hb
      · exact (h5 a ha).1
    · intro a ha j
      rcases List.mem_cons.1 ha with e | ha
      · subst e
        rcases h1.2 with ⟨hv, _⟩ | ⟨g', cap', cur, hv, _, hgg, _⟩
        · simp at hv
        · simp at hv
          rw [← hv.1] at hgg
          simp [World.frozen?, hgg]
      · exact h6 a ha j
    · refine h2.inL ?_
      intro j u hu
      have := h1.cells (g := g) (by simp [Value.ownBlock]) j u hu
      have e0 : (⟨g, 0, none⟩ : Addr).add j = ⟨g, j, none⟩ := by unfold Addr.add; split <;> simp_all
      rw [e0] at this
      simpa using this
theorem Pm.infoP : (Tryz.prog.info? 120).map (fun i => (i.zero, i.size, i.bytes)) = some (some (.agg #[.int .u8 0, .int .u64 0, .int .u64 0, .int .u64 0, .int .u64 0, .slice none 0 0, .bool false, .bool false]), 8, 72) := by kernel_rfl
open Go.RowKit
structure Pm.Nod (w : World) (b : Nat) (k : Nat) (f : Nat → Bool) (sl : Value) (e d : Bool) : Prop where
  cell : Pm.Cell w b 0 k f sl e d
  frz : ∀ i, i < 8 → w.frozen? ⟨b, i, none⟩ = false
theorem Pm.Nod.lt {w : World} {b k : Nat} {f : Nat → Bool} {sl : Value} {e d : Bool} (h : Pm.Nod w b k f sl e d) : b < w.heap.size := World.block_lt_of_cell? w _ h.cell.c0
theorem Pm.Nod.own {w w' : World} {b k : Nat} {f : Nat → Bool} {sl : Value} {e d : Bool} {row : Option Nat} (h : Pm.Nod w b k f sl e d) (hg : w.grownBy w' row) (hn : ∀ j, row = some j → b ≠ j) : Pm.Nod w' b k f sl e d := by
  have hne : some b ≠ row := fun e => hn b e.symm rfl
  exact ⟨h.cell.turn (fun j v _ hc => hg.cell hc hne), fun i hi => by rw [hg.frozen_far ⟨b, i, none⟩ h.lt hne]; exact h.frz i hi⟩
theorem Pm.Nod.up {w w' : World} {b k : Nat} {f : Nat → Bool} {sl : Value} {e d : Bool} (h : Pm.Nod w b k f sl e d) (hb : Below w.heap.size w w') : Pm.Nod w' b k f sl e d :=
  h.own (row := none) ⟨hb.os, hb.tape, hb.output, hb.size, fun k hk _ => hb.block k hk⟩ (fun j hj => by simp at hj)
theorem Pm.nod_new (w : World) (k : Nat) (f : Nat → Bool) (sl : Value) (e d : Bool) : Pm.Nod (w.alloc (.cells #[.int .u8 k, .int .u64 (Bs.word f 0), .int .u64 (Bs.word f 1), .int .u64 (Bs.word f 2), .int .u64 (Bs.word f 3), sl, .bool e, .bool d] 120)) w.heap.size k f sl e d := by
  refine ⟨⟨?_, ?_, ?_, ?_, ?_, ?_, ?_, ?_⟩, fun i hi => ?_⟩ <;> simp [go_sem]
theorem Pm.nod_zero (w : World) : Pm.Nod (w.alloc (.cells #[.int .u8 0, .int .u64 0, .int .u64 0, .int .u64 0, .int .u64 0, .slice none 0 0, .bool false, .bool false] 120)) w.heap.size 0 (fun _ => false) (.slice none 0 0) false false := by
  have := Pm.nod_new w 0 (fun _ => false) (.slice none 0 0) false false
  simpa [Bs.word_none] using this
def Pm.wr (w : World) (b : Nat) (k : Nat) (f : Nat → Bool) (sl : Value) (e d : Bool) : World := (((((((w.setCell ⟨b, 0, none⟩ (.int .u8 k)).setCell ⟨b, 1, none⟩ (.int .u64 (Bs.word f 0))).setCell ⟨b, 2, none⟩ (.int .u64 (Bs.word f 1))).setCell ⟨b, 3, none⟩ (.int .u64 (Bs.word f 2))).setCell ⟨b, 4, none⟩ (.int .u64 (Bs.word f 3))).setCell ⟨b, 5, none⟩ sl).setCell ⟨b, 6, none⟩ (.bool e)).setCell ⟨b, 7, none⟩ (.bool d)
theorem Pm.Nod.wr {w : World} {b k' : Nat} {f' : Nat → Bool} {sl' : Value} {e' d' : Bool} (h : Pm.Nod w b k' f' sl' e' d') (k : Nat) (f : Nat → Bool) (sl : Value) (e d : Bool) : Pm.Nod (Pm.wr w b k f sl e d) b k f sl e d := by
  obtain ⟨⟨c0, c1, c2, c3, c4, c5, c6, c7⟩, z⟩ := h
  simp only [Nat.zero_add] at c0 c1 c2 c3 c4 c5 c6 c7
  unfold Pm.wr
  refine ⟨⟨?_, ?_, ?_, ?_, ?_, ?_, ?_, ?_⟩, fun i hi => ?_⟩
  · simp [go_sem, c0, c1, c2, c3, c4, c5, c6, c7]
  · simp [go_sem, c0, c1, c2, c3, c4, c5, c6, c7]
  · simp [go_sem, c0, c1, c2, c3, c4, c5, c6, c7]
  · simp [go_sem, c0, c1, c2, c3, c4, c5, c6, c7]
  · simp [go_sem, c0, c1, c2, c3, c4, c5, c6, c7]
  · simp [go_sem, c0, c1, c2, c3, c4, c5, c6, c7]
  · simp [go_sem, c0, c1, c2, c3, c4, c5, c6, c7]
  · simp [go_sem, c0, c1, c2, c3, c4, c5, c6, c7]
  · simpa using z i hi
theorem Pm.wr_below {n0 : Nat} {w v : World} (h : Below n0 w v) {b : Nat} (hb : n0 ≤ b) (k : Nat) (f : Nat → Bool) (sl : Value) (e d : Bool) : Below n0 w (Pm.wr v b k f sl e d) :=
  (((((((h.setCell (p := ⟨b, 0, none⟩) hb _).setCell (p := ⟨b, 1, none⟩) hb _).setCell (p := ⟨b, 2, none⟩) hb _).setCell (p := ⟨b, 3, none⟩) hb _).setCell (p := ⟨b, 4, none⟩) hb _).setCell (p := ⟨b, 5, none⟩) hb _).setCell (p := ⟨b, 6, none⟩) hb _).setCell (p := ⟨b, 7, none⟩) hb _
theorem Pm.wr_grown (w : World) (b : Nat) (k : Nat) (f : Nat → Bool) (sl : Value) (e d : Bool) : w.grownBy (Pm.wr w b k f sl e d) (some b) :=
  Rx.grown_set (Rx.grown_set (Rx.grown_set (Rx.grown_set (Rx.grown_set (Rx.grown_set (Rx.grown_set (Rx.grown_set (Rx.grown_of b (Below.refl _ _)) _ _) _ _) _ _) _ _) _ _) _ _) _ _) _ _
def Pm.rel1 (X base k : Nat) (f : Nat → Bool) (h : Value) (em : Bool) : List (Value → World → Prop) := [
  fun v _ => v = .pointer (some ⟨X, 0, none⟩),
  fun v _ => v = .int .u8 k,
  fun v _ => v = .pointer (some ⟨X, 1, none⟩),
  fun v _ => v = Bs.val f,
  fun v _ => v = h,
  fun v _ => v = .bool em,
  fun v _ => v = Pm.hdr k f (.slice none 0 0) em false,
  fun v w => ∃ g, v = .pointer (some ⟨g, 0, none⟩) ∧ base ≤ g ∧ Pm.Nod w g 0 (fun _ => false) (.slice none 0 0) false false]
theorem Pm.rel1_up (X base k : Nat) (f : Nat → Bool) (h : Value) (em : Bool) : Rg.Ups (Pm.rel1 X base k f h em) := by
  refine ⟨?_, ?_, ?_, ?_, ?_, ?_, ?_, ?_, trivial⟩
  all_goals intro v w w' h hb
  all_goals (first | exact h | (obtain ⟨g, e, h1, h⟩ := h; exact ⟨g, e, h1, h.up hb⟩))
structure Pm.W1 (x : Rx) (w0 : World) (k : Nat) (f : Nat → Bool) (a : Option Addr) (n cap : Nat) (w : World) : Prop where
  one : Rx.Nod w w0.heap.size k f a n cap
  is : Rx.Is w x (Rx.hdr k f a n cap)
  nod : Pm.Nod w (w0.heap.size + 1) 0 (fun _ => false) (.slice none 0 0) false false
  bel : Below w0.heap.size w0 w
theorem Pm.W1.up {x : Rx} {w0 : World} {k : Nat} {f : Nat → Bool} {a : Option Addr} {n cap : Nat} {w w' : World} (h : Pm.W1 x w0 k f a n cap w) (hb : Below w.heap.size w w') : Pm.W1 x w0 k f a n cap w' := ⟨h.one.up hb, h.is.up hb, h.nod.up hb, Bs.below_up h.bel hb⟩
def Pm.PPost (w : World) (x : Ps) (e : Ending) (w' : World) : Prop := ∃ v F, e = .returned v ∧ Pm.Is w' x v F ∧ F.Nodup ∧ (∀ g ∈ F, w.heap.size ≤ g) ∧ Pm.Fz w' F ∧ Below w.heap.size w w'
theorem Ps.ofL_take : ∀ (l : List Rx) (q : Nat) (h : q < l.length), Ps.ofL (l.take (q + 1)) = Ps.ofL (l.take q) ++ [Ps.of l[q]]
  | [], q, h => by simp at h
  | x :: r, 0, h => by simp [Ps.ofL]
  | x :: r, q + 1, h => by
    simp only [List.take_succ_cons, Ps.ofL, List.cons_append, List.getElem_cons_succ]
    rw [Ps.ofL_take r q (by simpa using h)]
theorem Ps.ofL_len : ∀ (l : List Rx), (Ps.ofL l).length = l.length
  | [] => rfl
  | x :: r => by simp [Ps.ofL, Ps.ofL_len r]
def Pm.rel5 (g : Nat) (rv h : Value) (y : Ps) (pss : List Ps) (N0 : Nat) : List (Value → World → Prop) := [
  fun v _ => v = .pointer (some ⟨g, 5, none⟩),
  fun v _ => v = rv,
  fun v _ => v = h,
  fun v w => ∃ F, Pm.Is w y v F ∧ F.Nodup ∧ (∀ b ∈ F, N0 ≤ b) ∧ Pm.Fz w F,
  fun v w => ∃ (B k : Nat) (f : Nat → Bool) (sl : Value) (e d : Bool) (F : List Nat), v = .slice (some ⟨B, 0, none⟩) 1 1 ∧ w.heap[B]? = some (.cells #[.int .u8 k, .int .u64 (Bs.word f 0), .int .u64 (Bs.word f 1), .int .u64 (Bs.word f 2), .int .u64 (Bs.word f 3), sl, .bool e, .bool d] 120) ∧ N0 ≤ B ∧ sl.oneCell' = true ∧ Pm.Is w y (Pm.hdr k f sl e d) F ∧ F.Nodup ∧ (∀ b ∈ F, N0 ≤ b) ∧ Pm.Fz w F,
  fun v w => ∃ F, Pm.Own (g + 1) v (pss ++ [y]) w F,
  fun v _ => v = .pointer (some ⟨g, 5, none⟩)]
def Pm.M5 (rv : Value) (i : Nat) (w w' : World) : Prop := if i = 5 then w.grownBy w' rv.ownBlock else Below w.heap.size w w'
theorem Pm.rel5_up {g : Nat} {rv h : Value} {y : Ps} {pss : List Ps} {N0 : Nat} (ho : ∀ k, rv.ownBlock = some k → k < N0) {i j : Nat} {v : Value} {w w' : World} (hij : j ≠ i) (hR : Rg.rel (Pm.rel5 g rv h y pss N0) j v w) (hM : Pm.M5 rv i w w') : Rg.rel (Pm.rel5 g rv h y pss N0) j v w' := by
  have hg : w.grownBy w' rv.ownBlock := by
    unfold Pm.M5 at hM
    split at hM
    · exact hM
    · exact ⟨hM.os, hM.tape, hM.output, hM.size, fun k hk _ => hM.block k hk⟩
  have hF : ∀ {F : List Nat}, (∀ b ∈ F, N0 ≤ b) → ∀ b ∈ F, some b ≠ rv.ownBlock := fun hF b hb e => by have := ho b e.symm; have := hF b hb; omega
  match j, hR with
  | 0, h => exact h
  | 1, h => exact h
  | 2, h => exact h
  | 3, ⟨F, h1, h2, h3, h4⟩ => exact ⟨F, h1.grown hg (hF h3), h2, h3, h4.grown hg h1.lt (hF h3)⟩
  | 4, ⟨B, k, f, sl, e, d, F, h0, h1, h2, h3, h4, h5, h6, h7⟩ => exact ⟨B, k, f, sl, e, d, F, h0, by rw [hg.block B (Array.getElem?_eq_some_iff.1 h1).1 (fun e => by have := ho B e.symm; omega)]; exact h1, h2, h3, h4.grown hg (hF h6), h5, h6, h7.grown hg h4.lt (hF h6)⟩
  | 5, ⟨F, h1⟩ =>
    unfold Pm.M5 at hM
    rw [if_neg (Ne.symm hij)] at hM
    exact ⟨F, h1.up hM⟩
  | 6, h => exact h
  | _ + 7, _ => trivial
structure Pm.W5 (w0 : World) (g Kb : Nat) (k : Nat) (f : Nat → Bool) (rv : Value) (em : Bool) (k1 : Nat) (f1 : Nat → Bool) (a1 : Option Addr) (n1 cap1 : Nat) (pss : List Ps) (F : List Nat) (N0 : Nat) (L : Nat → Bool) (w : World) : Prop where
  var : Pm.Nod w g k f rv em false
  kid : Rx.Nod w Kb k1 f1 a1 n1 cap1
  nod : Pm.Nod w (w0.heap.size + 1) 0 (fun _ => false) (.slice none 0 0) false false
  bel : Below w0.heap.size w0 w
  own : L 5 = false → Pm.Own (g + 1) rv pss w F
  sz : N0 ≤ w.heap.size
theorem Pm.W5.up {w0 : World} {g Kb : Nat} {k : Nat} {f : Nat → Bool} {rv : Value} {em : Bool} {k1 : Nat} {f1 : Nat → Bool} {a1 : Option Addr} {n1 cap1 : Nat} {pss : List Ps} {F : List Nat} {N0 : Nat} {L : Nat → Bool} {w w' : World} (h : Pm.W5 w0 g Kb k f rv em k1 f1 a1 n1 cap1 pss F N0 L w) (hb : Below w.heap.size w w') : Pm.W5 w0 g Kb k f rv em k1 f1 a1 n1 cap1 pss F N0 L w' := ⟨h.var.up hb, h.kid.up hb, h.nod.up hb, Bs.below_up h.bel hb, fun e => (h.own e).up hb, Nat.le_trans h.sz hb.size⟩
theorem Pm.W5.on {w0 : World} {g Kb : Nat} {k : Nat} {f : Nat → Bool} {rv : Value} {em : Bool} {k1 : Nat} {f1 : Nat → Bool} {a1 : Option Addr} {n1 cap1 : Nat} {pss : List Ps} {F : List Nat} {N0 : Nat} {L : Nat → Bool} {w : World} (i : Nat) (hi : i ≠ 5) (h : Pm.W5 w0 g Kb k f rv em k1 f1 a1 n1 cap1 pss F N0 L w) : Pm.W5 w0 g Kb k f rv em k1 f1 a1 n1 cap1 pss F N0 (fun k => decide (k = i) || L k) w := ⟨h.var, h.kid, h.nod, h.bel, by simpa [Ne.symm hi] using h.own, h.sz⟩
theorem Pm.slice_one {w : World} {x : Ps} {k : Nat} {f : Nat → Bool} {sl : Value} {e d : Bool} {F : List Nat} (h : Pm.Is w x (Pm.hdr k f sl e d) F) : sl.oneCell' = true := by
  cases x
  obtain ⟨sl', hc, hk⟩ := h
  simp only [Pm.hdr, Value.agg.injEq, Array.mk.injEq, List.cons.injEq, true_and, and_true] at hc
  rw [hc.2.2.2.2.2.1]
  rcases hk with ⟨_, h, _⟩ | ⟨g, cap, G, _, h, _⟩ <;> rw [h] <;> rfl
set_option maxRecDepth 100000 in
set_option maxHeartbeats 4000000 in
theorem partOf_any : ∀ (m : Nat) (x : Rx), x.size ≤ m → m ≤ 100000 → ∀ (v : Value) (w : World), Rx.Is w x v → Calls Tryz.prog 54 #[v] w (Pm.PPost w (Ps.of x)) := by
  intro m
  induction m with
  | zero => intro x h; have := x.size_pos; omega
  | succ m ih =>
    rintro ⟨k, f, l⟩ hm hm4 v w hx
    obtain ⟨hk, a, cap, rfl, hl⟩ := hx
    have hms := hm
    simp only [Rx.size] at hm
    have hle := Rx.length_le l
    have IH := Lib.hid ih; clear ih
    have HL := Lib.hid hl
    have HX0 : Rx.Is w (.node k f l) (Rx.hdr k f a l.length cap) := ⟨hk, a, cap, rfl, hl⟩
    clear hl
    obtain ⟨n, hn⟩ : ∃ n, l.length = n := ⟨_, rfl⟩
    have HN := Lib.hid hn
    rw [hn] at hle HX0 ⊢
    clear hn
    have HP := Lib.hid (show Ps.of (.node k f l) = .node k f (Ps.ofL l) (Rx.emp (.node k f l)) false by rw [Ps.of])
    have EM := Lib.hid (fun v w => empty_any (m + 1) (.node k f l) hms hm4 v w)
    generalize Rx.emp (.node k f l) = em at *
    have A := Bs.below2 w (.cells #[.int .u8 k, .int .u64 (Bs.word f 0), .int .u64 (Bs.word f 1), .int .u64 (Bs.word f 2), .int .u64 (Bs.word f 3), .slice a n cap] 62) (.cells #[.int .u8 0, .int .u64 0, .int .u64 0, .int .u64 0, .int .u64 0, .slice none 0 0, .bool false, .bool false] 120)
    have N1 := (Rx.nod_new w k f a n cap).up (Bs.below1 _ (.cells #[.int .u8 0, .int .u64 0, .int .u64 0, .int .u64 0, .int .u64 0, .slice none 0 0, .bool false, .bool false] 120))
    have N2 := Pm.nod_zero (w.alloc (.cells #[.int .u8 k, .int .u64 (Bs.word f 0), .int .u64 (Bs.word f 1), .int .u64 (Bs.word f 2), .int .u64 (Bs.word f 3), .slice a n cap] 62))
    have eN : (w.alloc (.cells #[.int .u8 k, .int .u64 (Bs.word f 0), .int .u64 (Bs.word f 1), .int .u64 (Bs.word f 2), .int .u64 (Bs.word f 3), .slice a n cap] 62)).heap.size = w.heap.size + 1 := by simp [go_sem]
    rw [eN] at N2
    have W1 : Pm.W1 (.node k f l) w k f a n cap _ := ⟨N1, HX0.up A, N2, A⟩
    clear eN N1 N2 A HX0
    unfold Rx.hdr
    go_enter Tryz.func54, Tryz.ntmps54
    go_upto_region 1 with fail
    generalize (w.alloc (.cells #[.int .u8 k, .int .u64 (Bs.word f 0), .int .u64 (Bs.word f 1), .int .u64 (Bs.word f 2), .int .u64 (Bs.word f 3), .slice a n cap] 62)).alloc (.cells #[.int .u8 0, .int .u64 0, .int .u64 0, .int .u64 0, .int .u64 0, .slice none 0 0, .bool false, .bool false] 120) = W at *
    refine Rg.regionT (by kernel_rfl) (by kernel_rfl) (by kernel_rfl) (by decide) (Rg.rel (Pm.rel1 w.heap.size (w.heap.size + 2) k f (Rx.hdr k f a n cap) em)) (Pm.W1 (.node k f l) w k f a n cap) (fun w w' => Below w.heap.size w w') (fun i v w w' h _ hb => Rg.rel_up (Pm.rel1_up _ _ _ _ _ _) h hb) (W1.up (Below.refl _ _).drew) ⟨?_, ?_, ?_, ?_, ?_, ?_, ?_, ?_, trivial⟩ ?_
    · intro f' u hw hd
      have HW := Lib.hid hw
      clear hw hd
      simp only [Rg.step, Rg.all, Act.put, List.setIfInBounds_toArray, List.set_cons_zero, List.set_cons_succ]
      go_simp
      exact ⟨rfl, HW.out, Below.refl _ _⟩
    · intro f' u hw hd
      have r0 : f' 0 = .pointer (some ⟨w.heap.size, 0, none⟩) := hd _ (List.mem_cons_self ..)
      have HW := Lib.hid hw
      clear hw hd
      simp only [Rg.step, Rg.all, Act.put, List.setIfInBounds_toArray, List.set_cons_zero, List.set_cons_succ]
      have c0 := HW.out.one.cell.c0
      go_simp
      exact ⟨rfl, HW.out, Below.refl _ _⟩
    · intro f' u hw hd
      have HW := Lib.hid hw
      clear hw hd
      simp only [Rg.step, Rg.all, Act.put, List.setIfInBounds_toArray, List.set_cons_zero, List.set_cons_succ]
      go_simp
      exact ⟨rfl, HW.out, Below.refl _ _⟩
    · intro f' u hw hd
      have r0 : f' 2 = .pointer (some ⟨w.heap.size, 1, none⟩) := hd _ (List.mem_cons_self ..)
      have HW := Lib.hid hw
      clear hw hd
      simp only [Rg.step, Rg.all, Act.put, List.setIfInBounds_toArray, List.set_cons_zero, List.set_cons_succ]
      have c1 := HW.out.one.cell.c1; have c2 := HW.out.one.cell.c2; have c3 := HW.out.one.cell.c3; have c4 := HW.out.one.cell.c4
      simp only [Nat.zero_add] at c1 c2 c3 c4
      go_simp
      exact ⟨rfl, HW.out, Below.refl _ _⟩
    · intro f' u hw hd
      have HW := Lib.hid hw
      clear hw hd
      simp only [Rg.step, Rg.all, Act.put, List.setIfInBounds_toArray, List.set_cons_zero, List.set_cons_succ]
      have c0 := HW.out.one.cell.c0; have c1 := HW.out.one.cell.c1; have c2 := HW.out.one.cell.c2; have c3 := HW.out.one.cell.c3; have c4 := HW.out.one.cell.c4; have c5 := HW.out.one.cell.c5
      simp only [Nat.zero_add] at c0 c1 c2 c3 c4 c5
      go_simp
      exact ⟨rfl, HW.out, Below.refl _ _⟩
    · intro f' u hw hd
      have r4 : f' 4 = Rx.hdr k f a n cap := hd _ (List.mem_cons_self ..)
      have HW := Lib.hid hw
      clear hw hd
      simp only [Rg.step, Rg.all, Act.put, List.setIfInBounds_toArray, List.set_cons_zero, List.set_cons_succ]
      go_simp
      refine (EM.out _ u HW.out.is).mono ?_
      rintro e u1 ⟨rfl, hb⟩
      exact ⟨_, rfl, rfl, HW.out.up hb, hb⟩
    · intro f' u hw hd
      have r1 : f' 1 = .int .u8 k := hd _ (List.mem_cons_self ..)
      have r3 : f' 3 = Bs.val f := hd _ (List.mem_cons_of_mem _ (List.mem_cons_self ..))
      have r5 : f' 5 = .bool em := hd _ (List.mem_cons_of_mem _ (List.mem_cons_of_mem _ (List.mem_cons_self ..)))
      unfold Bs.val at r3
      have HW := Lib.hid hw
      clear hw hd
      simp only [Rg.step, Rg.all, Act.put, List.setIfInBounds_toArray, List.set_cons_zero, List.set_cons_succ]
      go_simp
      exact ⟨rfl, HW.out, Below.refl _ _⟩
    · intro f' u hw hd
      have hsz : w.heap.size + 2 ≤ u.heap.size := hw.nod.lt
      have HW := Lib.hid hw
      clear hw hd
      simp only [Rg.step, Rg.all, Act.put, List.setIfInBounds_toArray, List.set_cons_zero, List.set_cons_succ]
      go_simp
      exact ⟨⟨_, rfl, hsz, Pm.nod_zero u⟩, HW.out.up (Bs.below1 u _), Bs.below1 u _⟩
    · intro f' u hw hR o ho
      have r6 : f' 6 = Pm.hdr k f (.slice none 0 0) em false := hR 6 (by decide)
      obtain ⟨g, r7, hg, NP⟩ : ∃ g, f' 7 = .pointer (some ⟨g, 0, none⟩) ∧ w.heap.size + 2 ≤ g ∧ Pm.Nod u g 0 (fun _ => false) (.slice none 0 0) false false := hR 7 (by decide)
      simp at ho
      subst ho
      simp only [Rg.step, Rg.all, Act.put, List.setIfInBounds_toArray, List.set_cons_zero, List.set_cons_succ]
      have d0 := NP.cell.c0; have d1 := NP.cell.c1; have d2 := NP.cell.c2; have d3 := NP.cell.c3; have d4 := NP.cell.c4; have d5 := NP.cell.c5; have d6 := NP.cell.c6; have d7 := NP.cell.c7
      simp only [Nat.zero_add] at d0 d1 d2 d3 d4 d5 d6 d7
      have z := NP.frz
      have y0 := z 0 (by decide); have y1 := z 1 (by decide); have y2 := z 2 (by decide); have y3 := z 3 (by decide); have y4 := z 4 (by decide); have y5 := z 5 (by decide); have y6 := z 6 (by decide); have y7 := z 7 (by decide)
      clear z
      have HW := Lib.hid hw
      have HNP := Lib.hid NP
      unfold Pm.hdr at r6
      clear hw hR NP W1
      go_simp
      have hfold : (((((((u.setCell ⟨g, 0, none⟩ (.int .u8 k)).setCell ⟨g, 1, none⟩ (.int .u64 (Bs.word f 0))).setCell ⟨g, 2, none⟩ (.int .u64 (Bs.word f 1))).setCell ⟨g, 3, none⟩ (.int .u64 (Bs.word f 2))).setCell ⟨g, 4, none⟩ (.int .u64 (Bs.word f 3))).setCell ⟨g, 5, none⟩ (.slice none 0 0)).setCell ⟨g, 6, none⟩ (.bool em)).setCell ⟨g, 7, none⟩ (.bool false) = Pm.wr u g k f (.slice none 0 0) em false := rfl
      rw [hfold]
      have gw := Pm.wr_grown u g k f (.slice none 0 0) em false
      have PN := HNP.out.wr k f (.slice none 0 0) em false
      have N1 := HW.out.one.grown gw (by omega)
      have N2 := HW.out.nod.own gw (fun j hj => by injection hj with hj; omega)
      have A := Pm.wr_below HW.out.bel (b := g) (by omega) k f (.slice none 0 0) em false
      clear d0 d1 d2 d3 d4 d5 d6 d7 y0 y1 y2 y3 y4 y5 y6 y7 HW HNP r6 r7 hfold gw EM
      generalize Pm.wr u g k f (.slice none 0 0) em false = V at *
      generalize f' 0 = v6 at *
      generalize f' 1 = v7 at *
      generalize f' 2 = v8 at *
      generalize f' 3 = v9 at *
      generalize f' 4 = v10 at *
      generalize f' 5 = v11 at *
      clear f'
      have c5 := N1.cell.c5
      simp only [Nat.zero_add] at c5
      go_wp2_with fail
      clear c5 N1
      go_loopw [16] (fun i wr => ∃ (q : Nat) (rv : Value) (F : List Nat), q ≤ n ∧ i = .int .i64 q ∧ Pm.Nod wr g k f rv em false ∧ Pm.Own (g + 1) rv (Ps.ofL (l.take q)) wr F ∧ Pm.Nod wr (w.heap.size + 1) 0 (fun _ => false) (.slice none 0 0) false false ∧ Below w.heap.size w wr) (fun i _ => n - (intOf i).toNat)
      case atStart => exact ⟨0, _, [], by omega, rfl, PN, Pm.own_nil _ _, N2, A⟩
      case round =>
        clear PN N2 A
        obtain ⟨q, rv, F, hq, rfl, PN, O, N2, A⟩ := hrel
        by_cases hlt : q < n
        · have hlt' : q < l.length := by rw [HN.out]; exact hlt
          obtain ⟨p, rfl, hp⟩ := HL.out.get q hlt'
          rw [Nat.zero_add] at hp
          have hs : l[q].size ≤ m := by have := (Rx.part_le (List.getElem_mem hlt')).1; omega
          have HT := Lib.hid (Ps.ofL_take l q hlt')
          have HQ := Lib.hid (show (Ps.ofL (l.take q)).length = q by rw [Ps.ofL_len, List.length_take]; omega)
          have IQ := Lib.hid (fun v w => IH.out l[q] hs (by omega) v w)
          generalize l[q] = y at *
          obtain ⟨k1, f1, a1, n1, cap1, ⟨x0, x1, x2, x3, x4, x5⟩, hi⟩ := hp.open
          replace x0 := Bs.cell_up A x0; replace x1 := Bs.cell_up A x1; replace x2 := Bs.cell_up A x2; replace x3 := Bs.cell_up A x3; replace x4 := Bs.cell_up A x4; replace x5 := Bs.cell_up A x5
          have HI := Lib.hid hi
          clear hp hi
          have B1 := Bs.below1 wr (.cells #[.int .u8 k1, .int .u64 (Bs.word f1 0), .int .u64 (Bs.word f1 1), .int .u64 (Bs.word f1 2), .int .u64 (Bs.word f1 3), .slice a1 n1 cap1] 62)
          have hOl := O.lt
          have W5 : Pm.W5 w g wr.heap.size k f rv em k1 f1 a1 n1 cap1 (Ps.ofL (l.take q)) F (wr.heap.size + 1) (fun _ => false) (wr.alloc (.cells #[.int .u8 k1, .int .u64 (Bs.word f1 0), .int .u64 (Bs.word f1 1), .int .u64 (Bs.word f1 2), .int .u64 (Bs.word f1 3), .slice a1 n1 cap1] 62)) := ⟨PN.up B1, Rx.nod_new wr k1 f1 a1 n1 cap1, N2.up B1, Bs.below_up A B1, fun _ => O.up B1, by simp [go_sem]⟩
          have hgw : g < wr.heap.size := PN.lt
          have HOl := Lib.hid hOl
          have HFl := Lib.hid (show ∀ a ∈ F, a < wr.heap.size from by obtain ⟨cs, _, h2⟩ := O.row; exact h2.lt)
          clear PN N2 A O B1 hOl
          go_upto_region 5 with fail
          generalize wr.alloc (.cells #[.int .u8 k1, .int .u64 (Bs.word f1 0), .int .u64 (Bs.word f1 1), .int .u64 (Bs.word f1 2), .int .u64 (Bs.word f1 3), .slice a1 n1 cap1] 62) = U at *
          clear x0 x1 x2 x3 x4 x5
          refine Rg.regionZ (by kernel_rfl) (by kernel_rfl) (by kernel_rfl) (by decide) (Rg.rel (Pm.rel5 g rv (Rx.hdr k1 f1 a1 n1 cap1) (Ps.of y) (Ps.ofL (l.take q)) (wr.heap.size + 1))) (Pm.W5 w g wr.heap.size k f rv em k1 f1 a1 n1 cap1 (Ps.ofL (l.take q)) F (wr.heap.size + 1)) (Pm.M5 rv) (fun _ _ => False) (fun c b x _ h => h.elim) (fun i j v w w' hij h hb => Pm.rel5_up (fun k hk => by have := (HOl.out k hk).2; omega) hij h hb) (W5.up (Below.refl _ _).drew) ⟨?_, ?_, ?_, ?_, ?_, ?_, ?_, trivial⟩ ?_
          · intro L f' x hL hw hd
            have HW := Lib.hid hw
            clear hw hd
            simp only [Rg.stepZ, Rg.all, Act.put, List.setIfInBounds_toArray, List.set_cons_zero, List.set_cons_succ]
            go_simp
            exact ⟨rfl, HW.out.on 0 (by decide), Below.refl _ _⟩
          · intro L f' x hL hw hd
            have r0 : f' 0 = .pointer (some ⟨g, 5, none⟩) := (hd _ (List.mem_cons_self ..)).2
            have HW := Lib.hid hw
            clear hw hd
            simp only [Rg.stepZ, Rg.all, Act.put, List.setIfInBounds_toArray, List.set_cons_zero, List.set_cons_succ]
            have c5 := HW.out.var.cell.c5
            simp only [Nat.zero_add] at c5
            go_simp
            exact ⟨rfl, HW.out.on 1 (by decide), Below.refl _ _⟩
          · intro L f' x hL hw hd
            have HW := Lib.hid hw
            clear hw hd
            simp only [Rg.stepZ, Rg.all, Act.put, List.setIfInBounds_toArray, List.set_cons_zero, List.set_cons_succ]
            have c0 := HW.out.kid.cell.c0; have c1 := HW.out.kid.cell.c1; have c2 := HW.out.kid.cell.c2; have c3 := HW.out.kid.cell.c3; have c4 := HW.out.kid.cell.c4; have c5 := HW.out.kid.cell.c5
            simp only [Nat.zero_add] at c0 c1 c2 c3 c4 c5
            go_simp
            exact ⟨rfl, HW.out.on 2 (by decide), Below.refl _ _⟩
          · intro L f' x hL hw hd
            have r2 : f' 2 = Rx.hdr k1 f1 a1 n1 cap1 := (hd _ (List.mem_cons_self ..)).2
            have hsz := hw.sz
            have HW := Lib.hid hw
            clear hw hd
            simp only [Rg.stepZ, Rg.all, Act.put, List.setIfInBounds_toArray, List.set_cons_zero, List.set_cons_succ]
            go_simp
            refine (IQ.out _ x (HI.out.up HW.out.bel)).mono ?_
            rintro e x1 ⟨v, F', rfl, h1, h2, h3, h4, hb⟩
            exact ⟨_, rfl, ⟨F', h1, h2, fun b hb' => by have := h3 b hb'; omega, h4⟩, (HW.out.up hb).on 3 (by decide), hb⟩
          · intro L f' x hL hw hd
            obtain ⟨F', h1, h2, h3, h4⟩ : ∃ F', Pm.Is x (Ps.of y) (f' 3) F' ∧ F'.Nodup ∧ (∀ b ∈ F', wr.heap.size + 1 ≤ b) ∧ Pm.Fz x F' := (hd _ (List.mem_cons_self ..)).2
            have q0 := h1.form
            obtain ⟨k2, f2, sl2, e2, d2, e3, _⟩ := q0
            rw [e3] at h1
            have h1c := Pm.slice_one h1
            have H1 := Lib.hid h1
            have H3 := Lib.hid h3
            have H4 := Lib.hid (h4.up (Bs.below1 x (.cells #[.int .u8 k2, .int .u64 (Bs.word f2 0), .int .u64 (Bs.word f2 1), .int .u64 (Bs.word f2 2), .int .u64 (Bs.word f2 3), sl2, .bool e2, .bool d2] 120)) h1.lt)
            have hsz := hw.sz
            have HW := Lib.hid hw
            clear hw hd h1 h3 h4
            unfold Pm.hdr at e3
            simp only [Rg.stepZ, Rg.all, Act.put, List.setIfInBounds_toArray, List.set_cons_zero, List.set_cons_succ]
            go_simp
            exact ⟨⟨x.heap.size, k2, f2, sl2, e2, d2, F', rfl, heap_alloc_new x _, hsz, h1c, H1.out.up (Bs.below1 x _), h2, H3.out, H4.out⟩, (HW.out.up (Bs.below1 x _)).on 4 (by decide), Bs.below1 x _⟩
          · intro L f' x hL hw hd
            have r1 : f' 1 = rv := (hd _ (List.mem_cons_self ..)).2
            have r4' := (hd _ (List.mem_cons_of_mem _ (List.mem_cons_self ..))).2
            simp only [Rg.all, Act.put, List.setIfInBounds_toArray, List.set_cons_zero, List.set_cons_succ]
            obtain ⟨B, k2, f2, sl2, e2, d2, F', r4, hB, hNB, h1c, h1, h2, h3, h4⟩ := r4'
            clear hd
            have O := hw.own hL
            obtain ⟨iE, hiE⟩ : ∃ i, Tryz.prog.info? 120 = some i := by
              have := Pm.infoP
              cases h : Tryz.prog.info? 120 with
              | none => rw [h] at this; simp at this
              | some i => exact ⟨i, rfl⟩
            have hz := Pm.infoP
            rw [hiE] at hz
            simp at hz
            obtain ⟨hz0, hz1, hz2⟩ := hz
            have q0 := O.row
            obtain ⟨cs, O1, O2⟩ := q0
            have hNd := O.nod
            have hOff := O.off
            have hlt3 := O2.lt
            have hOx := O.lt
            have hbx : g + 1 ≤ x.heap.size := hw.var.lt
            rw [HQ.out] at O1
            refine Rg.stepZ_append _ _ 118 rfl (g + 1) 120 iE _ 8 72 Tryz.underlying118 hiE hz0 hz1 hz2 rfl (by decide) rv q cs r1 O1 ⟨B, 0, none⟩ 1 1 (Pm.eight k2 f2 sl2 e2 d2) r4 rfl (World.news_of_block hB) (by intro u hu; simp [Pm.eight] at hu; rcases hu with rfl | rfl | rfl | rfl | rfl | rfl | rfl | rfl <;> first | rfl | exact h1c) (by decide) (by unfold maxLen; omega) (by omega) hbx ?_
            intro gg c x1 o1 o2 o3 o4
            have hFG : ∀ a ∈ F, ∀ b ∈ F', a ≠ b := fun a ha b hb => by have := HFl.out a ha; have := h3 b hb; omega
            have hO5 : Pm.Own (g + 1) (.slice (some ⟨gg, 0, none⟩) (q + 1) c) (Ps.ofL (l.take q) ++ [Ps.of y]) x1 (F ++ F') := by
              have := Pm.Own.push (base := g + 1) (v := rv) (xs := Ps.ofL (l.take q)) (c := c) (g := gg) O2 hNd hOff h1 h2 (fun b hb => ⟨by have := h3 b hb; omega, fun e => by have := (hOx b e.symm).2; have := (HOl.out b e.symm).2; have := h3 b hb; omega⟩) hFG O.fz h4 (by rw [HQ.out]; exact o1) o2 o3
              rw [HQ.out] at this
              exact this
            have hown : ∀ j, rv.ownBlock = some j → g + 1 ≤ j := fun j hj => (hOx j hj).1
            refine ⟨⟨_, hO5⟩, ⟨hw.var.own o2 (fun j hj => by have := hown j hj; omega), hw.kid.own o2 (fun j hj => by have := (HOl.out j hj).2; omega), hw.nod.own o2 (fun j hj => by have := hown j hj; omega), hw.bel.grown o2 hw.bel.size (fun j hj => by have := hown j hj; omega), fun e => by simp at e, Nat.le_trans hw.sz o2.size⟩, o2⟩
          · intro L f' x hL hw hd
            have HW := Lib.hid hw
            clear hw hd
            simp only [Rg.stepZ, Rg.all, Act.put, List.setIfInBounds_toArray, List.set_cons_zero, List.set_cons_succ]
            go_simp
            exact ⟨rfl, HW.out.on 6 (by decide), Below.refl _ _⟩
          · intro L f' x hall hw hR o ho
            obtain ⟨F', r5⟩ : ∃ F', Pm.Own (g + 1) (f' 5) (Ps.ofL (l.take q) ++ [Ps.of y]) x F' := hR 5 (by decide)
            have r6 : f' 6 = .pointer (some ⟨g, 5, none⟩) := hR 6 (by decide)
            simp at ho
            subst ho
            simp only [Rg.stepZ, Rg.all, Act.put, List.setIfInBounds_toArray, List.set_cons_zero, List.set_cons_succ]
            have d5 := hw.var.cell.c5
            have y5 := hw.var.frz 5 (by decide)
            simp only [Nat.zero_add] at d5
            have HW := Lib.hid hw
            have H5 := Lib.hid r5
            have q0 := r5.row
            obtain ⟨cs, o1, _⟩ := q0
            have q1 := o1.form (by simp)
            obtain ⟨gg, c, e5, _, _⟩ := q1
            rw [e5] at H5
            generalize (Ps.ofL (l.take q) ++ [Ps.of y]).length = nn at e5 H5
            clear hw hR W5 r5 o1
            go_simp
            have gs : x.grownBy (x.setCell ⟨g, 5, none⟩ (.slice (some ⟨gg, 0, none⟩) nn c)) (some g) := Rx.grown_set (Rx.grown_of g (Below.refl _ _)) _ _
            have PN : Pm.Nod (x.setCell ⟨g, 5, none⟩ (.slice (some ⟨gg, 0, none⟩) nn c)) g k f (.slice (some ⟨gg, 0, none⟩) nn c) em false := by
              have hv := HW.out.var
              obtain ⟨⟨b0, b1, b2, b3, b4, b5, b6, b7⟩, z⟩ := hv
              simp only [Nat.zero_add] at b0 b1 b2 b3 b4 b5 b6 b7
              refine ⟨⟨?_, ?_, ?_, ?_, ?_, ?_, ?_, ?_⟩, fun i hi => by simpa using z i hi⟩ <;> simp [go_sem, b0, b1, b2, b3, b4, b5, b6, b7]
            have O2 := H5.out.far gs (by omega)
            have N2 := HW.out.nod.own gs (fun j hj => by injection hj with hj; omega)
            have A := HW.out.bel.setCell (p := ⟨g, 5, none⟩) (by simp; omega) (.slice (some ⟨gg, 0, none⟩) nn c)
            clear HW H5 d5 y5 gs e5 r6
            generalize x.setCell ⟨g, 5, none⟩ (.slice (some ⟨gg, 0, none⟩) nn c) = Y at *
            generalize f' 0 = u20 at *
            generalize f' 1 = u21 at *
            generalize f' 2 = u22 at *
            generalize f' 3 = u23 at *
            generalize f' 4 = u24 at *
            go_wp2_with fail
            go_roundw
            case rel => exact ⟨q + 1, _, F', by omega, by go_num, PN, by rw [HT.out]; exact O2, N2, A⟩
            case measure => simp [intOf]; omega
        · have hq' : l.take q = l := List.take_of_length_le (by rw [HN.out]; omega)
          rw [hq'] at O
          obtain ⟨G, hG1, hG2, hGz, hG3⟩ := O.slice
          have hGl : ∀ b ∈ G, b < wr.heap.size := by
            rcases hG3 with ⟨_, _, h⟩ | ⟨b, c, F', h1, _, h3, h4⟩
            · rw [h]; simp
            · intro b' hb'
              rw [h3] at hb'
              rcases List.mem_cons.1 hb' with e | hb'
              · rw [e]; exact h4.lt0 h1
              · exact h4.lt b' hb'
          have HG3 := Lib.hid hG3
          clear hq' O hG3
          have c0 := PN.cell.c0; have c1 := PN.cell.c1; have c2 := PN.cell.c2; have c3 := PN.cell.c3; have c4 := PN.cell.c4; have c5 := PN.cell.c5; have c6 := PN.cell.c6; have c7 := PN.cell.c7
          have d0 := N2.cell.c0; have d1 := N2.cell.c1; have d2 := N2.cell.c2; have d3 := N2.cell.c3; have d4 := N2.cell.c4; have d5 := N2.cell.c5; have d6 := N2.cell.c6; have d7 := N2.cell.c7
          simp only [Nat.zero_add] at c0 c1 c2 c3 c4 c5 c6 c7 d0 d1 d2 d3 d4 d5 d6 d7
          have z := N2.frz
          have y0 := z 0 (by decide); have y1 := z 1 (by decide); have y2 := z 2 (by decide); have y3 := z 3 (by decide); have y4 := z 4 (by decide); have y5 := z 5 (by decide); have y6 := z 6 (by decide); have y7 := z 7 (by decide)
          have hgg : g < wr.heap.size := PN.lt
          clear z PN N2
          have hrv : ∃ a9 n9 c9, rv = .slice a9 n9 c9 := by
            rcases HG3.out with ⟨_, h, _⟩ | ⟨b, c, F', _, h, _⟩
            · exact ⟨_, _, _, h⟩
            · exact ⟨_, _, _, h⟩
          obtain ⟨a9, n9, c9, rfl⟩ := hrv
          go_wp2_with fail
          refine bodyPost_ret (v := Pm.hdr k f (.slice a9 n9 c9) em false) (by simp [results, Tryz.results54, go_sem, Pm.hdr, d0, d1, d2, d3, d4, d5, d6, d7]) rfl ⟨_, G, rfl, ?_, hG1, fun b hb => by have := hG2 b hb; omega, hGz.grown (Pm.wr_grown wr (w.heap.size + 1) k f (.slice a9 n9 c9) em false) hGl (fun b hb => by simp; have := hG2 b hb; omega), ?_⟩
          · rw [HP.out]
            refine ⟨_, rfl, ?_⟩
            rcases HG3.out with h | ⟨b, c, F', h1, h2, h3, h4⟩
            · exact .inl h
            · refine .inr ⟨b, c, F', h1, h2, h3, ?_⟩
              have hne : ∀ b' ∈ G, w.heap.size + 1 ≠ b' := fun b' hb' => by have := hG2 b' hb'; omega
              have hw := Pm.wr_grown wr (w.heap.size + 1) k f (.slice a9 n9 c9) em false
              refine h4.turn (fun j v hc => hw.cell hc (by simp; have := hne b (by rw [h3]; simp); omega)) (fun b' hb' j v hc => hw.cell hc (by simp; have := hne b' (by rw [h3]; simp [hb']); omega))
          · exact Pm.wr_below A (by omega) k f (.slice a9 n9 c9) em false
open Go.RowKit
structure Pm.Chg (w w' : World) (b o : Nat) (F : List Nat) : Prop where
  os : w'.os = w.os
  tape : w'.tape = w.tape
  output : w'.output = w.output
  size : w.heap.size ≤ w'.heap.size
  block : ∀ k, k < w.heap.size → k ≠ b → k ∉ F → w'.heap[k]? = w.heap[k]?
  cell : ∀ j v, j ≠ o + 7 → w.cell? ⟨b, j, none⟩ = some v → w'.cell? ⟨b, j, none⟩ = some v
  frz : ∀ a : Addr, a.block < w.heap.size → w'.frozen? a = w.frozen? a
theorem Pm.Chg.trans {w w1 w2 : World} {b o : Nat} {F : List Nat} (h : Pm.Chg w w1 b o F) (h' : Pm.Chg w1 w2 b o F) : Pm.Chg w w2 b o F :=
  ⟨h'.os.trans h.os, h'.tape.trans h.tape, h'.output.trans h.output, Nat.le_trans h.size h'.size, fun k hk h1 h2 => (h'.block k (Nat.lt_of_lt_of_le hk h.size) h1 h2).trans (h.block k hk h1 h2), fun j v hj hc => h'.cell j v hj (h.cell j v hj hc), fun a ha => (h'.frz a (Nat.lt_of_lt_of_le ha h.size)).trans (h.frz a ha)⟩
theorem Pm.Chg.below {w w' : World} (b o : Nat) (F : List Nat) (hb : Below w.heap.size w w') : Pm.Chg w w' b o F :=
  ⟨hb.os, hb.tape, hb.output, hb.size, fun k hk _ _ => hb.block k hk, fun j v _ hc => Bs.cell_up hb hc, fun a ha => hb.frozen ha⟩
theorem Pm.Chg.refl (w : World) (b o : Nat) (F : List Nat) : Pm.Chg w w b o F := Pm.Chg.below b o F (Below.refl _ _)
theorem Pm.Chg.set (w : World) (b o : Nat) (F : List Nat) (v : Value) : Pm.Chg w (w.setCell ⟨b, o + 7, none⟩ v) b o F := by
  have g : w.grownBy (w.setCell ⟨b, o + 7, none⟩ v) (some b) := Rx.grown_set (Rx.grown_of b (Below.refl _ _)) _ _
  exact ⟨g.os, g.tape, g.output, g.size, fun k hk h1 _ => g.block k hk (by simpa using h1), fun j u hj hc => by rw [World.cell?_setCell_other _ _ _ _ (by simp <;> omega)]; exact hc, fun a ha => by simp⟩
theorem Pm.Chg.far {w w' : World} {b o : Nat} {F : List Nat} (h : Pm.Chg w w' b o F) {a : Addr} {v : Value} (hc : w.cell? a = some v) (h1 : a.block ≠ b) (h2 : a.block ∉ F) : w'.cell? a = some v :=
  (World.cell?_of_block (h.block a.block (World.block_lt_of_cell? w a hc) h1 h2)).trans hc
theorem Pm.Chg.kid {w w' : World} {b o g i : Nat} {F1 G : List Nat} (h : Pm.Chg w w' g i F1) (hb : b ∉ g :: G) (hF : ∀ k ∈ F1, k ∈ G) : Pm.Chg w w' b o (g :: G) := by
  have hbg : b ≠ g := fun e => hb (by simp [e])
  have hbF : b ∉ F1 := fun e => hb (by simp [hF b e])
  exact ⟨h.os, h.tape, h.output, h.size, fun k hk _ h2 => h.block k hk (fun e => h2 (by simp [e])) (fun e => h2 (by simp [hF k e])), fun j v _ hc => h.far hc hbg hbF, h.frz⟩
theorem Pm.Fz.chg {w w' : World} {b o : Nat} {F F' : List Nat} (h : Pm.Fz w F') (hc : Pm.Chg w w' b o F) (hl : ∀ g ∈ F', g < w.heap.size) : Pm.Fz w' F' := fun g hg j => by rw [hc.frz ⟨g, j, none⟩ (hl g hg)]; exact h g hg j
theorem Pm.InL.keep {w w' : World} : ∀ {l : List Ps} {g i : Nat} {F : List Nat}, Pm.InL w l g i F → (∀ j v, i * 8 ≤ j → j < (i + l.length) * 8 → w.cell? ⟨g, j, none⟩ = some v → w'.cell? ⟨g, j, none⟩ = some v) → (∀ g' ∈ F, ∀ j v, w.cell? ⟨g', j, none⟩ = some v → w'.cell? ⟨g', j, none⟩ = some v) → Pm.InL w' l g i F
  | [], _, _, _, h, _, _ => by simpa [Pm.InL] using h
  | y :: r, g, i, F, h, h1, h2 => by
    simp only [Pm.InL] at h ⊢
    obtain ⟨F1, F2, e, hy, hr⟩ := h
    subst e
    refine ⟨F1, F2, rfl, Pm.In.turn hy (fun j v hj hc => h1 _ v (by omega) (by simp; omega) hc) (fun g' hg' => h2 g' (by simp [hg'])), Pm.InL.keep hr (fun j v a1 a2 hc => h1 j v (by omega) (by simp only [List.length_cons]; omega) hc) (fun g' hg' => h2 g' (by simp [hg']))⟩
theorem Pm.InL.split {w : World} {y : Ps} {l2 : List Ps} : ∀ {l1 : List Ps} {g i : Nat} {F : List Nat}, Pm.InL w (l1 ++ y :: l2) g i F → ∃ F1 F2 F3, F = F1 ++ (F2 ++ F3) ∧ Pm.InL w l1 g i F1 ∧ Pm.In w y g ((i + l1.length) * 8) F2 ∧ Pm.InL w l2 g (i + l1.length + 1) F3
  | [], g, i, F, h => by
    simp only [List.nil_append, Pm.InL] at h
    obtain ⟨F2, F3, e, hy, hr⟩ := h
    exact ⟨[], F2, F3, by simpa using e, by simp [Pm.InL], by simpa using hy, by simpa using hr⟩
  | x :: r, g, i, F, h => by
    simp only [List.cons_append, Pm.InL] at h
    obtain ⟨Fx, Fr, e, hx, hr⟩ := h
    obtain ⟨F1, F2, F3, e2, h1, h2, h3⟩ := Pm.InL.split hr
    refine ⟨Fx ++ F1, F2, F3, by rw [e, e2]; simp, ?_, ?_, ?_⟩
    · simp only [Pm.InL]; exact ⟨Fx, F1, rfl, hx, h1⟩
    · rw [show i + (x :: r).length = i + 1 + r.length by simp; omega]; exact h2
    · rw [show i + (x :: r).length = i + 1 + r.length by simp; omega]; exact h3
theorem Pm.InL.join {w : World} {y : Ps} {l2 : List Ps} : ∀ {l1 : List Ps} {g i : Nat} {F1 F2 F3 : List Nat}, Pm.InL w l1 g i F1 → Pm.In w y g ((i + l1.length) * 8) F2 → Pm.InL w l2 g (i + l1.length + 1) F3 → Pm.InL w (l1 ++ y :: l2) g i (F1 ++ (F2 ++ F3))
  | [], g, i, F1, F2, F3, h1, h2, h3 => by
    simp only [Pm.InL] at h1
    subst h1
    simp only [List.nil_append, Pm.InL]
    exact ⟨F2, F3, rfl, by simpa using h2, by simpa using h3⟩
  | x :: r, g, i, F1, F2, F3, h1, h2, h3 => by
    simp only [Pm.InL] at h1
    obtain ⟨Fx, Fr, e, hx, hr⟩ := h1
    subst e
    simp only [List.cons_append, Pm.InL]
    refine ⟨Fx, Fr ++ (F2 ++ F3), by simp, hx, Pm.InL.join hr ?_ ?_⟩
    · rw [show i + (x :: r).length = i + 1 + r.length by simp; omega] at h2; exact h2
    · rw [show i + (x :: r).length = i + 1 + r.length by simp; omega] at h3; exact h3
def Pm.KL (w : World) (l : List Ps) (sl : Value) (F : List Nat) : Prop := (l = [] ∧ sl = .slice none 0 0 ∧ F = []) ∨ (∃ g cap G, l ≠ [] ∧ sl = .slice (some ⟨g, 0, none⟩) l.length cap ∧ F = g :: G ∧ Pm.InL w l g 0 G)
theorem Pm.in_iff {w : World} {k : Nat} {f : Nat → Bool} {l : List Ps} {e d : Bool} {b o : Nat} {F : List Nat} : Pm.In w (.node k f l e d) b o F ↔ ∃ sl, Pm.Cell w b o k f sl e d ∧ Pm.KL w l sl F := by
  simp only [Pm.In, Pm.KL]
theorem Pm.KL.turn {w w' : World} {l : List Ps} {sl : Value} {F : List Nat} (h : Pm.KL w l sl F) (h2 : ∀ g ∈ F, ∀ j v, w.cell? ⟨g, j, none⟩ = some v → w'.cell? ⟨g, j, none⟩ = some v) : Pm.KL w' l sl F := by
  rcases h with hk | ⟨g, cap, G, h3, h4, h5, h6⟩
  · exact .inl hk
  · subst h5
    exact .inr ⟨g, cap, G, h3, h4, rfl, h6.turn (fun j v hc => h2 g (by simp) j v hc) (fun g' hg' => h2 g' (by simp [hg']))⟩
theorem Pm.KL.lt {w : World} {l : List Ps} {sl : Value} {F : List Nat} (h : Pm.KL w l sl F) : ∀ g ∈ F, g < w.heap.size := by
  rcases h with ⟨_, _, hk⟩ | ⟨g, cap, G, h3, h4, h5, h6⟩
  · subst hk; simp
  · subst h5
    intro g' hg'
    rcases List.mem_cons.1 hg' with e | hg'
    · rw [e]; exact h6.lt0 h3
    · exact h6.lt g' hg'
theorem Pm.KL.kid {w : World} {l1 l2 : List Ps} {y : Ps} {sl : Value} {F : List Nat} (h : Pm.KL w (l1 ++ y :: l2) sl F) (hn : F.Nodup) (hz : Pm.Fz w F) : ∃ g cap G F2, sl = .slice (some ⟨g, 0, none⟩) (l1 ++ y :: l2).length cap ∧ F = g :: G ∧ Pm.In w y g (l1.length * 8) F2 ∧ F2.Nodup ∧ g ∉ F2 ∧ (∀ k ∈ F2, k ∈ G) ∧ Pm.Fz w (g :: F2) ∧
    ∀ (w' : World) (y' : Ps), Pm.Chg w w' g (l1.length * 8) F2 → Pm.In w' y' g (l1.length * 8) F2 → Pm.KL w' (l1 ++ y' :: l2) sl F := by
  rcases h with ⟨h, _⟩ | ⟨g, cap, G, h3, h4, h5, h6⟩
  · simp at h
  · subst h5
    obtain ⟨F1, F2, F3, e, i1, i2, i3⟩ := h6.split
    simp only [Nat.zero_add] at i2 i3
    subst e
    rw [List.nodup_cons, List.nodup_append] at hn
    obtain ⟨hg, hn1, hn23, hd⟩ := hn
    rw [List.nodup_append] at hn23
    obtain ⟨hn2, hn3, hd2⟩ := hn23
    refine ⟨g, cap, _, F2, h4, rfl, i2, hn2, fun hm => hg (by simp [hm]), fun k hk => by simp [hk], ?_, ?_⟩
    · intro k hk j
      refine hz k ?_ j
      rcases List.mem_cons.1 hk with e | hk
      · simp [e]
      · simp [hk]
    · intro w' y' hc hy'
      refine .inr ⟨g, cap, _, by simp, by rw [h4]; simp, rfl, ?_⟩
      have j1 : Pm.InL w' l1 g 0 F1 := i1.keep (fun j v a1 a2 hcell => hc.cell j v (by omega) hcell) (fun k hk j v hcell => hc.far hcell (fun e => hg (by simp at e; subst e; simp [hk])) (fun e => hd k hk k (by simp [show k ∈ F2 from e]) rfl))
      have j3 : Pm.InL w' l2 g (l1.length + 1) F3 := i3.keep (fun j v a1 a2 hcell => hc.cell j v (by omega) hcell) (fun k hk j v hcell => hc.far hcell (fun e => hg (by simp at e; subst e; simp [hk])) (fun e => hd2 k e k hk rfl))
      exact Pm.InL.join j1 (by simpa using hy') (by simpa using j3)
def Pm.RPost (w : World) (y : Ps) (b o : Nat) (F : List Nat) (e : Ending) (w' : World) : Prop := e = .returned (.tuple #[]) ∧ Pm.In w' y b o F ∧ Pm.Chg w w' b o F
theorem Pm.Cell.chg {w w' : World} {b o k : Nat} {f : Nat → Bool} {sl : Value} {e d : Bool} (h : Pm.Cell w b o k f sl e d) {g i : Nat} {F2 : List Nat} (hc : Pm.Chg w w' g i F2) (h1 : b ≠ g) (h2 : b ∉ F2) : Pm.Cell w' b o k f sl e d := h.turn fun j v _ hcell => hc.far hcell h1 h2
theorem Pm.Cell.done {w : World} {b o k : Nat} {f : Nat → Bool} {sl : Value} {e d : Bool} (h : Pm.Cell w b o k f sl e d) (d' : Bool) : Pm.Cell (w.setCell ⟨b, o + 7, none⟩ (.bool d')) b o k f sl e d' := by
  obtain ⟨c0, c1, c2, c3, c4, c5, c6, c7⟩ := h
  refine ⟨?_, ?_, ?_, ?_, ?_, ?_, ?_, ?_⟩ <;> simp [go_sem, c0, c1, c2, c3, c4, c5, c6, c7]
set_option maxRecDepth 100000 in
set_option maxHeartbeats 4000000 in
theorem readCat_any (k : Nat) (f : Nat → Bool) (l : List Ps) (e0 d0 : Bool) (b o : Nat) (F : List Nat) (w : World) (c : Nat) (bg : Bool) (h : Pm.In w (.node k f l e0 d0) b o F) (hF : F.Nodup) (hb : b ∉ F) (hz : Pm.Fz w (b :: F)) (hlen : l.length ≤ 100000)
    (hK : ∀ y ∈ l, ∀ (b o : Nat) (F : List Nat) (w : World) (bg : Bool), Pm.In w y b o F → F.Nodup → b ∉ F → Pm.Fz w (b :: F) → Calls Tryz.prog 55 #[.pointer (some ⟨b, o, none⟩), .int .u8 c, .bool bg] w (Pm.RPost w (y.read c bg) b o F)) :
    Calls Tryz.prog 85 #[.pointer (some ⟨b, o, none⟩), .int .u8 c, .bool bg] w (Pm.RPost w (.node k f (Ps.readC c l bg) e0 (Ps.doneC c l bg false)) b o F) := by
  obtain ⟨sl, C, K⟩ := Pm.in_iff.1 h
  clear h
  have HK := Lib.hid hK
  clear hK
  have z7 := hz b (by simp) (o + 7)
  have hbl : b < w.heap.size := World.block_lt_of_cell? w _ C.c0
  have C1 := C.done false
  have K1 : Pm.KL (w.setCell ⟨b, o + 7, none⟩ (.bool false)) l sl F := K.turn fun g hg j v hc => Bs.cell_set hc (fun e => hb (by simp at e; rw [e]; exact hg))
  have X1 := Pm.Chg.set w b o F (.bool false)
  have Z1 : Pm.Fz (w.setCell ⟨b, o + 7, none⟩ (.bool false)) (b :: F) := fun g hg j => by simpa using hz g hg j
  have hsl : ∃ a n cap, sl = .slice a n cap ∧ n = l.length := by
    rcases K with ⟨h1, h2, _⟩ | ⟨g, cap, G, _, h4, _⟩
    · exact ⟨_, 0, _, h2, by rw [h1]; rfl⟩
    · exact ⟨_, _, _, h4, rfl⟩
  obtain ⟨a, n, cap, rfl, hn⟩ := hsl
  have HN := Lib.hid hn
  have c7 := C.c7
  have c5 := C1.c5
  rw [← hn] at hlen
  clear hn K C hz
  go_enter Tryz.func85, Tryz.ntmps85
  go_wp2_with fail
  generalize w.setCell ⟨b, o + 7, none⟩ (.bool false) = V at *
  clear c7 c5 z7
  go_loopw [2, 17] (fun bv i wr => ∃ (q : Nat) (bq dq : Bool) (rs : List Ps), q ≤ n ∧ i = .int .i64 q ∧ bv = .bool bq ∧ rs.length = q ∧ Ps.readC c l bg = rs ++ Ps.readC c (l.drop q) bq ∧ Ps.doneC c l bg false = Ps.doneC c (l.drop q) bq dq ∧ Pm.Cell wr b o k f (.slice a n cap) e0 dq ∧ Pm.KL wr (rs ++ l.drop q) (.slice a n cap) F ∧ Pm.Chg w wr b o F ∧ Pm.Fz wr (b :: F)) (fun _ i _ => n - (intOf i).toNat)
  case atStart => exact ⟨0, bg, false, [], by omega, rfl, rfl, rfl, by simp, by simp, C1, by simpa using K1, X1, Z1⟩
  case round =>
    clear C1 K1 X1 Z1
    obtain ⟨q, bq, dq, rs, hq, rfl, rfl, hrs, hR, hD, C, K, X, Z⟩ := hrel
    have HR := Lib.hid hR
    have HD := Lib.hid hD
    clear hR hD
    by_cases hlt : q < n
    · have hlt' : q < l.length := by rw [← HN.out]; exact hlt
      have hmem := List.getElem_mem hlt'
      have hdr : l.drop q = l[q] :: l.drop (q + 1) := List.drop_eq_getElem_cons hlt'
      rw [hdr] at K
      have HKq := Lib.hid (HK.out l[q] hmem)
      have HR2 := Lib.hid (show Ps.readC c l bg = rs ++ (Ps.read c l[q] bq :: Ps.readC c (l.drop (q + 1)) (l[q].done || bq && l[q].empty)) by rw [HR.out, hdr, Ps.readC])
      have HD2 := Lib.hid (show Ps.doneC c l bg false = Ps.doneC c (l.drop (q + 1)) (l[q].done || bq && l[q].empty) ((Ps.read c l[q] bq).done || dq && l[q].empty) by rw [HD.out, hdr, Ps.doneC])
      have hem := Ps.read_empty c l[q] bq
      generalize l[q] = y at *
      clear HR HD hmem hdr
      obtain ⟨g, cap', G, F2, hsl, hFG, iy, n2, gn, hsub, zf, back⟩ := K.kid hF (fun k hk j => Z k (by simp [hk]) j)
      obtain ⟨ky, fy, ly, ey, dy⟩ := y
      obtain ⟨sy, Cy, Ky⟩ := Pm.in_iff.1 iy
      have IY := Lib.hid iy
      have BACK := Lib.hid back
      clear iy back Ky
      simp only [Value.slice.injEq] at hsl
      obtain ⟨rfl, hn', rfl⟩ := hsl
      rw [hrs] at Cy IY BACK
      have hbg : b ≠ g := fun e => hb (by rw [hFG, e]; simp)
      have hbF2 : b ∉ F2 := fun e => hb (by rw [hFG]; simp [hsub b e])
      have c5 := C.c5
      have k7 := Cy.c7
      have HX := Lib.hid X
      have HC := Lib.hid C
      have HZ := Lib.hid Z
      have HGz := Lib.hid (show ∀ g' ∈ b :: F, g' < wr.heap.size from fun g' hg' => by
        rcases List.mem_cons.1 hg' with e | hg'
        · rw [e]; exact World.block_lt_of_cell? wr _ C.c0
        · exact K.lt g' hg')
      clear C X Z K hn'
      go_wp2_with fail
      refine (HKq.out g (q * 8) F2 wr bq IY.out n2 gn zf).mono ?_
      rintro e w1 ⟨rfl, iy', ch⟩
      have K1 := Lib.hid (BACK.out w1 _ ch iy')
      have ck := ch.kid (b := b) (o := o) (by rw [← hFG]; exact hb) hsub
      rw [← hFG] at ck
      have X1 := Lib.hid (HX.out.trans ck)
      have C1 := HC.out.chg ch hbg hbF2
      have Z1 := Lib.hid (HZ.out.chg ch HGz.out)
      clear ck HX HC HZ BACK HKq IY Cy c5 k7 ch HGz zf
      generalize hy' : Ps.read c (.node ky fy ly ey dy) bq = y' at *
      clear hy'
      obtain ⟨k', f', l', e', d'⟩ := y'
      obtain ⟨s', Cy', _⟩ := Pm.in_iff.1 iy'
      simp only [Ps.empty, Ps.done] at hem HR2 HD2
      subst hem
      have k6 := Cy'.c6
      have k7 := Cy'.c7
      have c7 := C1.c7
      have z7 := Z1.out b (by simp) (o + 7)
      have HC1 := Lib.hid C1
      clear C1 Cy' iy'
      have fin : ∀ (bn dn : Bool) (Y : World), Y = w1.setCell ⟨b, o + 7, none⟩ (.bool dn) → (dy || bq && e') = bn → (d' || dq && e') = dn → ∃ (q' : Nat) (bq' dq' : Bool) (rs' : List Ps), q' ≤ n ∧ q + 1 = q' ∧ bn = bq' ∧ rs'.length = q' ∧ Ps.readC c l bg = rs' ++ Ps.readC c (l.drop q') bq' ∧ Ps.doneC c l bg false = Ps.doneC c (l.drop q') bq' dq' ∧ Pm.Cell Y b o k f (.slice (some ⟨g, 0, none⟩) n cap) e0 dq' ∧ Pm.KL Y (rs' ++ l.drop q') (.slice (some ⟨g, 0, none⟩) n cap) F ∧ Pm.Chg w Y b o F ∧ Pm.Fz Y (b :: F) := by
        intro bn dn Y hY hbn hdn
        subst hY
        refine ⟨q + 1, bn, dn, rs ++ [.node k' f' l' e' d'], by omega, rfl, rfl, by simp [hrs], ?_, ?_, HC1.out.done dn, ?_, X1.out.trans (Pm.Chg.set w1 b o F _), fun g' hg' j => by simpa using Z1.out g' hg' j⟩
        · rw [HR2.out, hbn]; simp
        · rw [HD2.out, hbn, hdn]
        · have := K1.out.turn (w' := w1.setCell ⟨b, o + 7, none⟩ (.bool dn)) fun g' hg' j v hc => Bs.cell_set hc (fun e => hb (by simp at e; rw [e]; exact hg'))
          simpa using this
      have FIN := Lib.hid fin
      clear fin
      cases dy
      · cases bq
        · cases d'
          · cases dq
            · go_wp2_with fail
              go_roundw
              case rel => obtain ⟨q', bq', dq', rs', a1, a2, a3, a4⟩ := FIN.out false false _ rfl rfl rfl; exact ⟨q', bq', dq', rs', a1, by rw [← a2]; go_num, by rw [a3], a4⟩
              case measure => simp [intOf]; omega
            · go_wp2_with fail
              go_roundw
              case rel => obtain ⟨q', bq', dq', rs', a1, a2, a3, a4⟩ := FIN.out false e' _ rfl rfl (by simp); exact ⟨q', bq', dq', rs', a1, by rw [← a2]; go_num, by rw [a3], a4⟩
              case measure => simp [intOf]; omega
          · go_wp2_with fail
            go_roundw
            case rel => obtain ⟨q', bq', dq', rs', a1, a2, a3, a4⟩ := FIN.out false true _ rfl rfl rfl; exact ⟨q', bq', dq', rs', a1, by rw [← a2]; go_num, by rw [a3], a4⟩
            case measure => simp [intOf]; omega
        · cases d'
          · cases dq
            · go_wp2_with fail
              go_roundw
              case rel => obtain ⟨q', bq', dq', rs', a1, a2, a3, a4⟩ := FIN.out e' false _ rfl (by simp) rfl; exact ⟨q', bq', dq', rs', a1, by rw [← a2]; go_num, by rw [a3], a4⟩
              case measure => simp [intOf]; omega
            · go_wp2_with fail
              go_roundw
              case rel => obtain ⟨q', bq', dq', rs', a1, a2, a3, a4⟩ := FIN.out e' e' _ rfl (by simp) (by simp); exact ⟨q', bq', dq', rs', a1, by rw [← a2]; go_num, by rw [a3], a4⟩
              case measure => simp [intOf]; omega
          · go_wp2_with fail
            go_roundw
            case rel => obtain ⟨q', bq', dq', rs', a1, a2, a3, a4⟩ := FIN.out e' true _ rfl (by simp) rfl; exact ⟨q', bq', dq', rs', a1, by rw [← a2]; go_num, by rw [a3], a4⟩
            case measure => simp [intOf]; omega
      · cases d'
        · cases dq
          · go_wp2_with fail
            go_roundw
            case rel => obtain ⟨q', bq', dq', rs', a1, a2, a3, a4⟩ := FIN.out true false _ rfl rfl rfl; exact ⟨q', bq', dq', rs', a1, by rw [← a2]; go_num, by rw [a3], a4⟩
            case measure => simp [intOf]; omega
          · go_wp2_with fail
            go_roundw
            case rel => obtain ⟨q', bq', dq', rs', a1, a2, a3, a4⟩ := FIN.out true e' _ rfl rfl (by simp); exact ⟨q', bq', dq', rs', a1, by rw [← a2]; go_num, by rw [a3], a4⟩
            case measure => simp [intOf]; omega
        · go_wp2_with fail
          go_roundw
          case rel => obtain ⟨q', bq', dq', rs', a1, a2, a3, a4⟩ := FIN.out true true _ rfl rfl rfl; exact ⟨q', bq', dq', rs', a1, by rw [← a2]; go_num, by rw [a3], a4⟩
          case measure => simp [intOf]; omega
    · have hdr : l.drop q = [] := List.drop_eq_nil_of_le (by rw [← HN.out]; omega)
      have HR2 := Lib.hid (show Ps.readC c l bg = rs by rw [HR.out, hdr, Ps.readC]; simp)
      have HD2 := Lib.hid (show Ps.doneC c l bg false = dq by rw [HD.out, hdr, Ps.doneC])
      rw [hdr, List.append_nil] at K
      clear hdr HR HD
      go_wp2_with fail
      go_end0
      refine ⟨rfl, ?_, X⟩
      rw [HR2.out, HD2.out]
      exact Pm.in_iff.2 ⟨_, C, K⟩
end Go.Proofs.YthapedadnbkgnaaGreat
