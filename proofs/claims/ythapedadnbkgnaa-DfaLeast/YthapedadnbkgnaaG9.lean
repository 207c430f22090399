/- What the program's Sets answers, walked: rows of sets that grow by append. -/
import Derived.Test.YthapedadnbkgnaaG8
import Derived.Test.YthapedadnbkgnaaG3
import Derived.Laws.AppendOwnNone
namespace Go.Proofs.Ythapedadnbkgnaa
set_option linter.unusedVariables false
set_option linter.unusedSimpArgs false
open Go.RowKit
def Sr.cells (fs : List (Nat → Bool)) : List Value := fs.flatMap fun f => [.int .u64 (Bs.word f 0), .int .u64 (Bs.word f 1), .int .u64 (Bs.word f 2), .int .u64 (Bs.word f 3)]
theorem Sr.cells_append (a b : List (Nat → Bool)) : Sr.cells (a ++ b) = Sr.cells a ++ Sr.cells b := by simp [Sr.cells]
theorem Sr.cells_len : ∀ fs : List (Nat → Bool), (Sr.cells fs).length = fs.length * 4
  | [] => rfl
  | f :: r => by
    have := Sr.cells_len r
    simp only [Sr.cells, List.flatMap_cons, List.length_append, List.length_cons, List.length_nil] at this ⊢
    omega
theorem Sr.cells_at : ∀ (fs : List (Nat → Bool)) (k : Nat) (h : k < fs.length), (Sr.cells fs)[k * 4]? = some (.int .u64 (Bs.word fs[k] 0)) ∧ (Sr.cells fs)[k * 4 + 1]? = some (.int .u64 (Bs.word fs[k] 1)) ∧ (Sr.cells fs)[k * 4 + 2]? = some (.int .u64 (Bs.word fs[k] 2)) ∧ (Sr.cells fs)[k * 4 + 3]? = some (.int .u64 (Bs.word fs[k] 3))
  | f :: r, 0, h => ⟨rfl, rfl, rfl, rfl⟩
  | f :: r, k + 1, h => by
    have ih := Sr.cells_at r k (by simpa using h)
    have e0 : Sr.cells (f :: r) = [.int .u64 (Bs.word f 0), .int .u64 (Bs.word f 1), .int .u64 (Bs.word f 2), .int .u64 (Bs.word f 3)] ++ Sr.cells r := rfl
    rw [e0]
    have a0 : (k + 1) * 4 = 4 + k * 4 := by omega
    have a1 : (k + 1) * 4 + 1 = 4 + (k * 4 + 1) := by omega
    have a2 : (k + 1) * 4 + 2 = 4 + (k * 4 + 2) := by omega
    have a3 : (k + 1) * 4 + 3 = 4 + (k * 4 + 3) := by omega
    rw [a1, a2, a3, a0, List.getElem?_append_right (by simp), List.getElem?_append_right (by simp), List.getElem?_append_right (by simp), List.getElem?_append_right (by simp)]
    simpa using ih
def Sr.Own (base : Nat) (v : Value) (fs : List (Nat → Bool)) (w : World) : Prop := w.ownsRow base 25 4 v fs.length (Sr.cells fs) ∧ (fs = [] → v = .slice none 0 0)
theorem Sr.own_nil (base : Nat) (w : World) : Sr.Own base (.slice none 0 0) [] w := ⟨World.ownsRow_nil _ _ _ _, fun _ => rfl⟩
theorem Sr.Own.up {base : Nat} {v : Value} {fs : List (Nat → Bool)} {w w' : World} (h : Sr.Own base v fs w) (hb : Below w.heap.size w w') : Sr.Own base v fs w' := ⟨Bs.row_up h.1 hb, h.2⟩
theorem Sr.Own.slice {base : Nat} {v : Value} {fs : List (Nat → Bool)} {w : World} (h : Sr.Own base v fs w) : ∃ a cap, v = .slice a fs.length cap ∧ Bs.Row w a fs := by
  by_cases he : fs = []
  · subst he
    rw [h.2 rfl]
    exact ⟨none, 0, rfl, fun i hi => by simp at hi⟩
  · have hl : 0 < fs.length := List.length_pos_iff.2 he
    rcases h.1.2 with ⟨_, h0⟩ | ⟨g, cap, cur, rfl, _⟩
    · omega
    · refine ⟨_, cap, rfl, fun i hi => ⟨_, rfl, ?_⟩⟩
      have hc := h.1.cells (g := g) rfl
      obtain ⟨k0, k1, k2, k3⟩ := Sr.cells_at fs i hi
      have q0 := hc _ _ k0; have q1 := hc _ _ k1; have q2 := hc _ _ k2; have q3 := hc _ _ k3
      have e0 : ∀ j, (⟨g, 0, none⟩ : Addr).add j = ⟨g, j, none⟩ := fun j => by unfold Addr.add; split <;> simp_all
      rw [e0] at q0 q1 q2 q3 ⊢
      exact ⟨q0, q1, q2, q3⟩
theorem Sr.infoS : (Try.prog.info? 25).map (fun i => (i.zero, i.size, i.bytes)) = some (some (.agg #[.int .u64 0, .int .u64 0, .int .u64 0, .int .u64 0]), 4, 32) := by kernel_rfl
theorem Sr.append {ops : Array Oper} {rest : List Oper} {o : Oper} {a : Act} {Q : Exit → Act → World → Prop} {W : World} (hgd : o.guard = none) (s x : Operand)
    (ho : o.op = .call { callee := .builtin .append, args := #[s, x], argTypes := #[109, 109] })
    (base : Nat) (v : Value) (fs : List (Nat → Bool)) (hs : a.eval s = v) (O : Sr.Own base v fs W) (ad : Addr) (c : Nat) (gs : List (Nat → Bool)) (hx : a.eval x = .slice (some ad) gs.length c)
    (hnews : ∀ j u, (Sr.cells gs)[j]? = some u → W.cell? (ad.add j) = some u) (hg0 : gs ≠ []) (hl : fs.length + gs.length ≤ 1000000) (hbase : base ≤ W.heap.size)
    (h : ∀ v' w', Sr.Own base v' (fs ++ gs) w' → W.grownBy w' v.ownBlock → wpList Try.prog ops Q rest (a.put o.dst v') w') : wpList Try.prog ops Q (o :: rest) a W := by
  obtain ⟨iE, hiE⟩ : ∃ i, Try.prog.info? 25 = some i := by
    have := Sr.infoS
    cases h : Try.prog.info? 25 with
    | none => rw [h] at this; simp at this
    | some i => exact ⟨i, rfl⟩
  have hz := Sr.infoS
  rw [hiE] at hz
  simp at hz
  obtain ⟨hz0, hz1, hz2⟩ := hz
  refine wpList_append_own W hgd s x 109 ho base 25 iE _ 4 32 Try.underlying109 hiE hz0 hz1 hz2 rfl (by decide) v fs.length (Sr.cells fs) hs O.1 ad gs.length c (Sr.cells gs) hx (Sr.cells_len gs) hnews (by
    intro u hu
    simp only [Sr.cells, List.mem_flatMap] at hu
    obtain ⟨f, _, hu⟩ := hu
    simp at hu
    rcases hu with rfl | rfl | rfl | rfl <;> rfl) (by unfold maxLen; omega) (by omega) hbase ?_
  intro v' w' o1 o2 o3
  refine h _ _ ⟨by rw [List.length_append, Sr.cells_append]; exact o1, fun e => ?_⟩ o2
  have : gs = [] := by simp at e; exact e.2
  exact absurd this hg0
mutual
def Rx.sets : Rx → List (Nat → Bool)
  | .node k f l => if k = 1 then [f] else Rx.setsL l
def Rx.setsL : List Rx → List (Nat → Bool)
  | [] => []
  | x :: r => Rx.sets x ++ Rx.setsL r
end
theorem Rx.setsL_take : ∀ (l : List Rx) (q : Nat) (h : q < l.length), Rx.setsL (l.take (q + 1)) = Rx.setsL (l.take q) ++ Rx.sets l[q]
  | [], q, h => by simp at h
  | x :: r, 0, h => by simp [Rx.setsL]
  | x :: r, q + 1, h => by
    simp only [List.take_succ_cons, Rx.setsL, List.getElem_cons_succ]
    rw [Rx.setsL_take r q (by simpa using h), List.append_assoc]
mutual
theorem Rx.sets_le : ∀ x : Rx, x.sets.length ≤ x.size
  | .node k f l => by
    have := Rx.setsL_le l
    rw [Rx.sets]
    split
    · simp [Rx.size]
    · simp only [Rx.size]; omega
theorem Rx.setsL_le : ∀ l : List Rx, (Rx.setsL l).length ≤ Rx.sizeL l
  | [] => by simp [Rx.setsL]
  | x :: r => by
    have := Rx.sets_le x; have := Rx.setsL_le r
    simp only [Rx.setsL, Rx.sizeL, List.length_append]; omega
end
theorem Sr.sz (w : World) (o : Obj) : w.heap.size + 1 = (w.alloc o).heap.size := by simp
end Go.Proofs.Ythapedadnbkgnaa
